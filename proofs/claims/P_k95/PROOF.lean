import PyProof.Rows.All
import Wide.All
import OpenK.AllK
import Wide.FinOn
import HandS.ForMost
import HandS.AnyAll
import HandS.GenList
import HandS.IsInst
import HandS.Deep
import HandS.Strs
import HandS.Zip
import KE.GoesEnum
import HandS.TupMul
import HandS.TupAny
import HandS.EndOwn
import HandS.Text
import HandS.FStr
import HandS.Dict
import PySem.Challenge.RW_mintlaw_k95_plans_and_verdicts_as_texts
import HandS.WideMore
import KE.KRevSl
import PyProof.SliceList
import PyProof.StrLawsChain
import PyProof.Rows.StrLawsPart
import PyProof.Rows.StrFirst2
import KE.KIntText
import PyProof.Rows.StrIntSpec
import HandS.Rev
import HandS.MapJoin
import KE.GoesEnumKw
import PyProof.Rows.CallKwBuiltin
import PyProof.P3In
import HandS.Star
set_option Elab.async false
set_option linter.all false
set_option maxRecDepth 100000
set_option maxHeartbeats 4000000
set_option synthInstance.maxHeartbeats 4000000
set_option synthInstance.maxSize 100000
namespace Gx
open PySem PySem.Spec PyProof.Rows L2 GenW GxR

/-- the consumer has it awake again: nothing of the heap has changed -/
structure Woke (s s2 : Shared) : Prop where
  os : s2.os = s.os
  heap : s2.heap = s.heap
  bare : AllBare s2.gens
theorem Inv.woke {X : Cx} {pins : List (Addr × Obj)} {σ : L2.St} {H : Hp} {s s2 : Shared} (I : Inv X pins σ H s) (w : Woke s s2) : Inv X pins σ H s2 :=
  I.call' (ch := []) w.os (Un.kept fun b u e => by rw [w.heap]; exact e) (by rw [w.heap]; exact I.hok) w.bare fun b z => by simp at z

abbrev GxR' (Xg : Cx) (fp : List Addr) (Qt : Hp → Prop) : GenEnd := fun n s₀ r s1 =>
  ((r = .ok (.ret .none) ∨ r = .ok .next) ∧ (∃ σ' H', Inv Xg [] σ' H' s1 ∧ (∀ b ∈ fp, H' b = none) ∧ Qt H')) ∨ ∃ e, r = .error e ∧ (False : Prop)
abbrev GxY (Xg : Cx) (fp : List Addr) (Qf : Hp → Prop) : Protocol := fun n s₀ v s1 kap =>
  ∃ c σ' H', v = .bool c ∧ Inv Xg [] σ' H' s1 ∧ (∀ b ∈ fp, H' b = none) ∧ if c = true then ∀ s2, Woke s1 s2 → kap (.send .none) s2 else Qf H'

theorem gx_seg {Xg : Cx} {A : Around} {tg iter elt : Expr} {scope : Scope} {pos : Pos} {it : Addr} {fp : List Addr} {tn : Nat → Heap → Prop} {J : It} {g : TG} {te : TE}
    (T : Turn Xg.prog Xg.w Xg.K tg J fp it tn) (hg : PG Xg tg g) (he : PE Xg elt te) (hxe : ∀ e s, Xg.xe e s → False) (hcalm : Xg.calm = true) (hco : Xg.env.scope.isCoroutine = false)
    (hA : A.over (.compLoop (.GeneratorExp elt [⟨tg, iter, [], 0⟩] scope pos) 0 (.ref it) .none Xg.env) [] = Xg.A)
    (stat : ∀ H', (∀ b ∈ fp, H' b = none) → ∀ b ∈ fp, FpOk Xg [] H' b)
    (W : Nat → Nat → L2.St → Hp → Prop) (Qt Qf : Hp → Prop)
    (turn : ∀ i m σ H, W i m σ H → (J.stop i H ∧ Qt H) ∨ (J.go i H ∧ 0 < m ∧ ∀ x H', J.yld i H x H' → g x σ H' fun σ2 H2 => te σ2 H2 fun v H3 => ∃ c, v = .bl c ∧ if c = true then ∃ m', m' < m ∧ W (i + 1) m' σ2 H3 else Qf H3)) :
    ∀ (n i m : Nat) (σ : L2.St) (H : Hp) (s s₀ : Shared), m ≤ n → Inv Xg [] σ H s → tn i s.heap → (∀ b ∈ fp, H b = none) → W i m σ H →
      Seg (model Xg.prog Xg.w) A (GxR' Xg fp Qt) (GxY Xg fp Qf) n s₀ (.compLoop (.GeneratorExp elt [⟨tg, iter, [], 0⟩] scope pos) 0 (.ref it) .none Xg.env)
        ((model Xg.prog Xg.w).den (.compLoop (.GeneratorExp elt [⟨tg, iter, [], 0⟩] scope pos) 0 (.ref it) .none Xg.env)) [] s := by
  intro n
  induction n with
  | zero =>
    intro i m σ H s s₀ hm I st fr w
    show Seg _ A _ _ _ s₀ _ ((compTurn (.GeneratorExp elt [⟨tg, iter, [], 0⟩] scope pos) 0 (.ref it) .none Xg.env).onRaise (leaving Xg.env)) [] s
    rw [compTurn_gen, Sem.onRaise_eq_wrap]
    refine seg_bind_wrap (wpAny_standAt ?_)
    rcases turn i m σ H w with ⟨stop, qt⟩ | ⟨_, hm0, _⟩
    · refine seg_bind_wrap ?_
      rw [hA]
      refine thn (T.done Xg rfl rfl rfl hcalm i [] s σ H _ I (stat H fr) st stop) fun r s4 ⟨hr, I4⟩ => ?_
      subst hr
      exact seg_end (.ok .next) (.inl ⟨.inr rfl, σ, H, I4, fr, qt⟩)
    · omega
  | succ n ih =>
    intro i m σ H s s₀ hm I st fr w
    show Seg _ A _ _ _ s₀ _ ((compTurn (.GeneratorExp elt [⟨tg, iter, [], 0⟩] scope pos) 0 (.ref it) .none Xg.env).onRaise (leaving Xg.env)) [] s
    rw [compTurn_gen, Sem.onRaise_eq_wrap]
    refine seg_bind_wrap (wpAny_standAt ?_)
    rcases turn i m σ H w with ⟨stop, qt⟩ | ⟨go, hm0, step⟩
    · refine seg_bind_wrap ?_
      rw [hA]
      refine thn (T.done Xg rfl rfl rfl hcalm i [] s σ H _ I (stat H fr) st stop) fun r s4 ⟨hr, I4⟩ => ?_
      subst hr
      exact seg_end (.ok .next) (.inl ⟨.inr rfl, σ, H, I4, fr, qt⟩)
    · refine seg_bind_wrap ?_
      rw [hA]
      refine thn (T.item Xg rfl rfl rfl hcalm i [] s σ H _ I (stat H fr) st go) fun r s4 ⟨u, hr, h4⟩ => ?_
      subst hr
      refine seg_bind_wrap ?_
      rw [hA]
      refine wpAny_mono h4 (fun _ s5 ⟨x, H5, I5, r5, y5, st5, fr5⟩ => ?_) fun e s5 h => h
      have I5' := I5.pinned (stat H5 fr5) (T.obj _ _ st5)
      refine seg_bind_wrap ?_
      rw [hA]
      refine wpAny_mono (hg.run _ s5 σ H5 x u _ I5' r5 (step x H5 y5)) (fun _ s6 ⟨σ6, H6, I6, q6⟩ => ?_) fun e s5 h => (hxe e s5 h).elim
      simp only [List.forIn_nil]
      refine seg_bind_wrap (wpAny_pure ?_)
      simp only [if_true]
      have hy : ∀ v, yieldOut Xg.env v = yieldValue v := fun v => by simp only [yieldOut, hco, Bool.false_eq_true, if_false]
      simp only [hy]
      rw [Sem.bind_eq_wrap', Sem.bind_eq_wrap', Sem.wrap_wrap, Sem.wrap_wrap]
      refine seg_wrap ?_
      rw [hA]
      refine wpAny_mono (he.run _ s6 σ6 H6 _ I6 q6) (fun y s7 ⟨v, H7, I7, r7, c, ec, q7⟩ => ?_) fun e s5 h => (hxe e s5 h).elim
      subst ec
      obtain rfl : y = Value.bool c := r7
      have fr7 : ∀ b ∈ fp, H7 b = none := fun b hb => by
        obtain ⟨o, e, d⟩ := T.obj _ _ st5 b hb
        exact (I7.pin (b, o) (List.mem_append_right _ (List.mem_append_right _ (mem_pinsAt hb e)))).2.1
      have st7 : tn (i + 1) s7.heap := T.keep _ _ _ st5 fun b hb o e => (I7.pin (b, o) (List.mem_append_right _ (List.mem_append_right _ (mem_pinsAt hb e)))).1
      have I7' := I7.unpinned
      refine seg_at (seg_yield rfl rfl rfl ⟨c, σ6, H7, rfl, I7', fr7, ?_⟩)
      cases c with
      | false =>
        rw [if_neg Bool.false_ne_true] at q7 ⊢
        exact q7
      | true =>
        rw [if_pos rfl] at q7 ⊢
        obtain ⟨m', hm', w7⟩ := q7
        intro s2 hw
        exact seg_again rfl (ih (i + 1) m' σ6 H7 s2 s2 (by omega) (Inv.woke I7' hw) (by rw [hw.heap]; exact st7) fr7 w7)
end Gx


namespace Gx
open PySem PySem.Spec PyProof.Rows L2 GenW GxR

theorem gx_start {Xg : Cx} {A : Around} {tg iter elt : Expr} {scope : Scope} {pos : Pos} {it : Addr} {fp : List Addr} {tn : Nat → Heap → Prop} {J : It} {Qt Qf : Hp → Prop} {n : Nat} {s s₀ : Shared}
    (T : Turn Xg.prog Xg.w Xg.K tg J fp it tn) (st : tn 0 s.heap)
    (loop : Seg (model Xg.prog Xg.w) A (GxR' Xg fp Qt) (GxY Xg fp Qf) n s₀ (.compLoop (.GeneratorExp elt [⟨tg, iter, [], 0⟩] scope pos) 0 (.ref it) .none Xg.env)
        ((model Xg.prog Xg.w).den (.compLoop (.GeneratorExp elt [⟨tg, iter, [], 0⟩] scope pos) 0 (.ref it) .none Xg.env)) [] s) :
    Seg (model Xg.prog Xg.w) A (GxR' Xg fp Qt) (GxY Xg fp Qf) n s₀ (.compStart (.GeneratorExp elt [⟨tg, iter, [], 0⟩] scope pos) 0 (.ref it) .none Xg.env)
        ((model Xg.prog Xg.w).den (.compStart (.GeneratorExp elt [⟨tg, iter, [], 0⟩] scope pos) 0 (.ref it) .none Xg.env)) [] s := by
  show Seg _ A _ _ _ s₀ _ ((compStart (.GeneratorExp elt [⟨tg, iter, [], 0⟩] scope pos) 0 (.ref it) .none Xg.env).onRaise (leaving Xg.env)) [] s
  unfold compStart
  rw [Sem.onRaise_eq_wrap]
  show Seg _ A _ _ _ s₀ _ ((ask >>= _).wrap _ _ _ _) [] s
  refine seg_bind_wrap (wpAny_askSetting ?_)
  split
  · exact seg_again rfl loop
  · first
      | exact seg_bind_wrap (wpAny_rule (seg_bind_wrap (wpAny_standAt (seg_bind_wrap (T.self _ 0 s _ _ st (seg_again rfl loop))))))
      | (refine seg_bind_wrap (wpAny_rule ?_); show Seg _ A _ _ _ s₀ _ ((standAt iter.pos >>= _).wrap _ _ _ _) [] s; exact seg_bind_wrap (wpAny_standAt (seg_bind_wrap (T.self _ 0 s _ _ st (seg_again rfl loop)))))

theorem gx_all {Xg : Cx} {A : Around} {fp : List Addr} {Qt Qf : Hp → Prop} {R : Result → Shared → Prop} {a : Addr} {g : Nat}
    (hh : A.handled = none) (hd : A.depth < recursionLimit) (gen : ∀ σ H s, Inv Xg [] σ H s → s.heap.IsGen a g)
    (ht : ∀ σ' H' s1 h', Inv Xg [] σ' H' s1 → (∀ b ∈ fp, H' b = none) → Qt H' → (∀ b o, s1.heap.get? b = some o → h'.get? b = some o) → R (.ok (.ret (.bool true))) { s1.setGen g .finished with heap := h' })
    (hf : ∀ σ' H' s1 gs', gs'.bare = true → Inv Xg [] σ' H' s1 → (∀ b ∈ fp, H' b = none) → Qf H' → R (.ok (.ret (.bool false))) (s1.setGen g gs')) :
    ∀ (n : Nat) (s : Shared), s.heap.IsGen a g → s.heap.NoLimit →
      (∃ gs, s.gens[g]? = some gs ∧ gs.Goes (model Xg.prog Xg.w) A.in1.in1 (GxR' Xg fp Qt) (GxY Xg fp Qf) n (.send .none) (s.setGen g .running)) →
      codeAny (model Xg.prog Xg.w) A (.builtin "all.loop" ⟨[.ref a], []⟩) R s := by
  intro n
  induction n with
  | zero =>
    intro s hg hl ⟨gs, hgs, hgo⟩
    refine codeAny_builtin F.entry_all_loop ?_
    rw [Around.under_plainId F.plain_all_loop _]
    show wpAny _ A.in1 (pyNext (.ref a) >>= _) _ _ s
    refine wpAny_bind (next_genG (A := A.in1) (Er := fun _ _ => False) hh hl hd hg hgs hgo (fun v s₁ gs' hbare hv => ?_) (fun s₁ hp h' hk => ?_) fun e s₁ he => he.elim)
    · obtain ⟨c, σ', H', rfl, I, fr, q⟩ := hv
      refine wpAny_bind (wpAny_holding (wpAny_truthy_bool ?_))
      refine wpAny_bind (wpAny_letGo ?_)
      cases c with
      | true =>
        rw [if_pos rfl] at q
        exact (q s₁ ⟨rfl, rfl, I.bare⟩).elim
      | false =>
        rw [if_neg Bool.false_ne_true] at q
        simp only [Bool.false_eq_true, if_false]
        refine wpAny_bind (wpAny_rule (wpAny_pure ?_))
        exact hf σ' H' s₁ gs' hbare I fr q
    · obtain ⟨σ', H', I, fr, q⟩ := hp
      refine wpAny_bind (wpAny_rule (wpAny_pure ?_))
      exact ht σ' H' s₁ h' I fr q hk
  | succ n ih =>
    intro s hg hl ⟨gs, hgs, hgo⟩
    have hgl : g < s.gens.size := (Array.getElem?_eq_some_iff.mp hgs).1
    refine codeAny_builtin F.entry_all_loop ?_
    rw [Around.under_plainId F.plain_all_loop _]
    show wpAny _ A.in1 (pyNext (.ref a) >>= _) _ _ s
    refine wpAny_bind (wpAny_gsz (n := g + 1) hgl (next_genG (A := A.in1) (Er := fun _ _ => False) hh hl hd hg hgs hgo (fun v s₁ gs' hbare hv => ?_) (fun s₁ hp h' hk => ?_) fun e s₁ he => he.elim))
    · intro hsz
      obtain ⟨c, σ', H', rfl, I, fr, q⟩ := hv
      refine wpAny_bind (wpAny_holding (wpAny_truthy_bool ?_))
      refine wpAny_bind (wpAny_letGo ?_)
      cases c with
      | true =>
        rw [if_pos rfl] at q
        simp only [if_true]
        have hsz1 : g < s₁.gens.size := by
          have q : (s₁.setGen g gs').gens.size = s₁.gens.size := setGen_size _ _ _
          have hsz' : g + 1 ≤ (s₁.setGen g gs').gens.size := hsz
          omega
        refine wpAny_pure ⟨plainId_quiet F.plain_all_loop _, ih (s₁.setGen g gs') (gen σ' H' s₁ I) I.nolimit ⟨gs', setGen_at hsz1, ?_⟩⟩
        exact q _ ⟨rfl, rfl, allBare_setGen (s := s₁.setGen g gs') (allBare_setGen I.bare hbare) rfl⟩
      | false =>
        rw [if_neg Bool.false_ne_true] at q
        simp only [Bool.false_eq_true, if_false]
        refine wpAny_bind (wpAny_rule (wpAny_pure ?_))
        exact hf σ' H' s₁ gs' hbare I fr q
    · intro hsz
      obtain ⟨σ', H', I, fr, q⟩ := hp
      refine wpAny_bind (wpAny_rule (wpAny_pure ?_))
      exact ht σ' H' s₁ h' I fr q hk
end Gx


namespace Gx
open PySem PySem.Spec PyProof.Rows L2 GenW GxR

theorem Inv.after {X : Cx} {pins : List (Addr × Obj)} {σ : L2.St} {H : Hp} {s s2 : Shared} (I : Inv X pins σ H s) (os : s2.os = s.os) (k : ∀ b o, s.heap.get? b = some o → s2.heap.get? b = some o) (hb : AllBare s2.gens) : Inv X pins σ H s2 :=
  I.call' (ch := []) os (Un.kept k) (I.hok.kept k) hb fun b z => by simp at z

/-- the slots of a generator expression's frame: js tells for each whether it is captured, and from which slot of the def -/
def capt (js : List (Option Nat)) (σ : L2.St) : L2.St := js.map fun o => match o with
  | some j => (σ[j]?).getD none
  | none => none

def capOk (XN N : List Str) (js : List (Option Nat)) (names : List (Str × NameKind)) : Bool :=
  (N.zip js).all fun p => match p.2 with
    | some j => (XN[j]? == some p.1) && (names.lookup p.1 == some .free)
    | none => true
def freeOk (sc : List (Str × NameKind)) (names : List (Str × NameKind)) : Bool :=
  names.all fun y => match y.2 with
    | .cell => false
    | .free => sc.lookup y.1 == some .cell || sc.lookup y.1 == some .free
    | _ => true
structure GxS (sc : Scope) (XN : List Str) (scope : Scope) (N : List Str) (js : List (Option Nat)) : Prop where
  kind : scope.kind = .function
  co : scope.isCoroutine = false
  dot : scope.names.lookup (".0" : Str) = some NameKind.local
  free : freeOk sc.names scope.names = true
  len : js.length = N.length
  cap : capOk XN N js scope.names = true
theorem GxS.nocell {sc : Scope} {XN : List Str} {scope : Scope} {N : List Str} {js : List (Option Nat)} (S : GxS sc XN scope N js) : ∀ y ∈ scope.names, y.2 ≠ .cell := fun y hy z => by
  have q := List.all_eq_true.mp S.free y hy
  rw [z] at q
  cases q
theorem GxS.frees {sc : Scope} {XN : List Str} {scope : Scope} {N : List Str} {js : List (Option Nat)} (S : GxS sc XN scope N js) : ∀ y ∈ scope.names, y.2 = .free → sc.names.lookup y.1 = some .cell ∨ sc.names.lookup y.1 = some .free := fun y hy z => by
  have q := List.all_eq_true.mp S.free y hy
  rw [z] at q
  simpa using q
theorem GxS.caps {sc : Scope} {XN : List Str} {scope : Scope} {N : List Str} {js : List (Option Nat)} (S : GxS sc XN scope N js) {i j : Nat} {x : Str} (h : js[i]? = some (some j)) (hx : N[i]? = some x) : XN[j]? = some x ∧ scope.names.lookup x = some .free := by
  have hm : (x, some j) ∈ N.zip js := by
    rw [List.mem_iff_getElem?]
    exact ⟨i, by rw [List.getElem?_zip_eq_some]; exact ⟨hx, h⟩⟩
  have q := List.all_eq_true.mp S.cap _ hm
  simpa using q

abbrev gxEnv (X : Cx) (scope : Scope) (C : Addr) (code : Value) : Env := genEnv scope (cloFrom X.env.cells scope.names []) C code builtinsNs X.env
def gxCx (X : Cx) (scope : Scope) (N : List Str) (C : Addr) (code : Value) (s : Shared) (H : Hp) (fp : List Addr) (pn : List (Addr × Obj)) : Cx :=
  { X with A := X.A.in1.in1.deeper (gxEnv X scope C code), N := N, s_0 := s, H_0 := H, env := gxEnv X scope C code, outer := X.stack, stack := gxEnv X scope C code :: X.stack, ex := fp, fn := fun _ => false, calm := true, pn := pn, xe := fun _ _ => False }
theorem gxRoom {X : Cx} {k : Nat} (hr : Room (k + 1) X.A) (env : Env) : Room k (X.A.in1.in1.deeper env) :=
  ⟨hr.hd, by have := hr.dp; show X.A.depth + 1 + 3 * k + 5 < _; omega, by have := hr.un; show X.A.units + 1 + 1 + 3 + 16 * k + 200 < _; omega⟩

theorem over_comp {A : Around} {elt tg iter : Expr} {scope : Scope} {pos : Pos} {it acc : Value} {env : Env} :
    A.over (.compLoop (.GeneratorExp elt [⟨tg, iter, [], 0⟩] scope pos) 0 it acc env) [] = A.deeper env := by
  first
    | rfl
    | (obtain ⟨hd, d, fr, gs, u⟩ := A; simp [Around.over, Around.deeper, marksOver, frameCount, unitsOf, envsOf, guardsOf, pushEnvs, pushGuards, Code.envs, Code.env?, Code.isFrame, Code.guards, Code.isGuard, Code.weight, Code.frames, Code.isCreation, Code.isCaller, Code.cUnits])

/-- a captured name's cell is the def's -/
theorem clo_cell {X : Cx} {scope : Scope} {N : List Str} {js : List (Option Nat)} {pins : List (Addr × Obj)} {σ : L2.St} {H : Hp} {s : Shared} (S : GxS X.env.scope X.N scope N js) (I : Inv X pins σ H s) {x : Str} {c : Addr} (h : (cloFrom X.env.cells scope.names []).lookup x = some c) :
    X.env.cells.lookup x = some c := by
  rcases cloFrom_mem (PySem.mem_of_lookup h) with z | ⟨h1, h2⟩
  · cases z
  · obtain ⟨c', hc⟩ := I.ok.has x (S.frees _ h1 rfl)
    rw [hc] at h2
    rw [hc, h2]
    rfl
theorem clo_has {X : Cx} {scope : Scope} {N : List Str} {js : List (Option Nat)} {pins : List (Addr × Obj)} {σ : L2.St} {H : Hp} {s : Shared} (S : GxS X.env.scope X.N scope N js) (I : Inv X pins σ H s) {x : Str} (h : (x, NameKind.free) ∈ scope.names) :
    ∃ c, (cloFrom X.env.cells scope.names []).lookup x = some c := mem_lookup (cloFrom_has h)

theorem inv_gx {X : Cx} {scope : Scope} {N : List Str} {js : List (Option Nat)} {pins : List (Addr × Obj)} {σ : L2.St} {H H3 : Hp} {s s5 : Shared} {C : Addr} {code : Value} {fp : List Addr} {a : Addr} {go : Obj} {itv : Value}
    (hd : X.A.handled = none) (S : GxS X.env.scope X.N scope N js) (I : Inv X pins σ H s) (f2 : ∀ b ∈ fp, FpOk X pins H b) (ofp : ∀ b ∈ fp, ∃ o, s.heap.get? b = some o)
    (hC : s.heap.objs.size ≤ C) (os : s5.os = s.os) (hb : AllBare s5.gens) (un : Un (frs X.stack) [] H H3 s.heap s5.heap) (hn : s5.heap.Ns C (fun y => if y = ".0" then some itv else none)) (hok : HOk X.prog X.w H3 s5.heap)
    (ha : s5.heap.get? a = some go) (haC : a ≠ C) (haS : s.heap.objs.size ≤ a) (hgo : ∀ v, go.data ≠ .cell v) (hyoung : ∀ b, s.heap.objs.size ≤ b → H3 b = none) :
    Inv (gxCx X scope N C code s H fp [(a, go)]) [] (capt js σ) H3 s5 := by
  have nst : ∀ b, s.heap.objs.size ≤ b → b ∉ frs X.stack := fun b hb hm => by
    rcases List.mem_cons.mp (I.stkSub b hm) with z | z
    · rw [z] at hb
      exact absurd (Nat.lt_of_lt_of_le I.lt hb) (Nat.lt_irrefl _)
    · exact I.nofs hb z
  have fpn : ∀ b ∈ fp, b ∉ frs X.stack := fun b hb hm => by
    obtain ⟨_, f1, f2', _⟩ := f2 b hb
    rcases List.mem_cons.mp (I.stkSub b hm) with z | z
    · exact f1 z
    · exact f2' z
  have cellK : ∀ c v, s.heap.IsCell c v → H c = none → s5.heap.IsCell c v := fun c v ⟨o, ho, hd⟩ hc => by
    obtain ⟨sl, e⟩ := un.any ho hc (by simp)
    exact ⟨_, e, hd⟩
  refine ⟨⟨I.ok.mod, S.kind, I.ok.glob, rfl, hC, fun x y c h1 h2 => I.ok.inj x y c (clo_cell S I h1) (clo_cell S I h2), fun x hx => ?_, fun _ _ h _ => (by cases h), fun _ => hd, Around.frames_deeper (A := X.A.in1.in1) I.ok.frames, .inr ⟨rfl, rfl⟩, fun b hb => ⟨?_, fun x c h => ?_⟩, I.bs, Nat.le_trans I.ok.bsz I.sz, fun b o e hb => ?_, fpn, I.stack, fun b hb => I.stkFree b hb⟩,
    os, hb, ⟨fun b o e n h1 h2 => un.keep b o e n h1 (by simp), fun b o e n h1 h2 => un.slot b o e n h1 (by simp), fun b o e n h => un.free b o e n (by simp), fun b o e h => un.there b o e (by simp), un.tups, un.frzs, un.tbls⟩,
    ⟨_, hn, fun i x v e1 e2 e3 => ?_⟩, fun x c h => ?_, hyoung C hC, fun x c h => ?_, fun p hp => ?_, hok, ?_⟩
  · have hx' : scope.names.lookup x = some .cell ∨ scope.names.lookup x = some .free := hx
    rcases hx' with hx' | hx'
    · exact absurd rfl (S.nocell _ (PySem.mem_of_lookup hx'))
    · exact clo_has S I (PySem.mem_of_lookup hx')
  · obtain ⟨o, ho⟩ := ofp b hb
    exact Nat.ne_of_lt (Nat.lt_of_lt_of_le (Heap.lt_size ho) hC)
  · obtain ⟨_, _, _, _, f4, _⟩ := f2 b hb
    exact f4 x c (clo_cell S I h)
  · obtain ⟨_, _, _, f3, _, _⟩ := f2 b hb
    rcases f3 with z | z
    · exact I.ok.noex b o e z
    · exact absurd (Nat.lt_of_lt_of_le (Heap.lt_size (I.ok.bs b o e).1) z) (Nat.lt_irrefl _)
  · -- a slot
    have e2' : (js.map fun o => match o with | some j => (σ[j]?).getD none | none => none)[i]? = some (some v) := e2
    rw [List.getElem?_map] at e2'
    cases hj : js[i]? with
    | none => rw [hj] at e2'; cases e2'
    | some o =>
      rw [hj] at e2'
      cases o with
      | none => cases e2'
      | some j =>
        have e4 : (σ[j]?).getD none = some v := Option.some.inj e2'
        have e5 : σ[j]? = some (some v) := by
          cases q : σ[j]? with
          | none => rw [q] at e4; cases e4
          | some z => rw [q] at e4; exact congrArg some e4
        obtain ⟨h1, h2⟩ := S.caps hj e1
        obtain ⟨m, hm, hl⟩ := I.loc
        have hfr := S.frees _ (PySem.mem_of_lookup h2) rfl
        obtain ⟨u, r, l⟩ := hl j x v h1 e5 (.inr hfr)
        refine ⟨u, r, .inr ⟨.inr h2, ?_⟩⟩
        rcases l with ⟨hk, _⟩ | ⟨_, c, hc, hcell⟩
        · have hk' : X.env.scope.names.lookup x = some .local := hk
          rcases hfr with z | z <;> (rw [hk'] at z; cases z)
        · obtain ⟨c', hc'⟩ := clo_has S I (PySem.mem_of_lookup h2)
          have e6 := clo_cell S I hc'
          rw [hc] at e6
          cases e6
          exact ⟨c, hc', cellK c _ hcell (I.freeC x c hc)⟩
  · obtain ⟨v, hv⟩ := I.cell x c (clo_cell S I h)
    exact ⟨v, cellK c v hv (I.freeC x c (clo_cell S I h))⟩
  · obtain ⟨v, o, ho, _⟩ := I.cell x c (clo_cell S I h)
    exact un.free c o ho (I.freeC x c (clo_cell S I h)) (by simp)
  · have e : p = (a, go) := by simpa [gxCx] using hp
    subst e
    exact ⟨ha, hyoung a haS, haC, nst a haS, hgo⟩
  · show (js.map _).length = N.length
    rw [List.length_map]
    exact S.len
end Gx


namespace Gx
open PySem PySem.Spec PyProof.Rows L2 GenW GxR

/-- what all(elt for tg in iter) asks -/
def tAllG (P : Addr) (js : List (Option Nat)) (wi : TI) (g : TG) (te : TE) : TE := fun σ H Q => wi σ H fun J H1 => TabG H1 P ∧ ∀ H2, Tabbed P H1 H2 →
  ∃ W : Nat → Nat → L2.St → Hp → Prop, (∃ m, W 0 m (capt js σ) H2) ∧ ∀ i m σ' H', W i m σ' H' →
    (J.stop i H' ∧ Q (.bl true) H') ∨ (J.go i H' ∧ 0 < m ∧ ∀ x H'', J.yld i H' x H'' → g x σ' H'' fun σ2 H3 => te σ2 H3 fun v H4 => ∃ c, v = .bl c ∧ if c = true then ∃ m', m' < m ∧ W (i + 1) m' σ2 H4 else Q (.bl false) H4)

theorem pe_allG {X : Cx} {c P : Addr} {k : Nat} {elt iter tg : Expr} {p pos gpos : Pos} {scope : Scope} {N : List Str} {js : List (Option Nat)} {wi : TI} {g : TG} {te : TE}
    (hr : Room (k + 1) X.A) (hg : Gl X "all") (hm : X.mg "all" = none) (TB : TabB X.base X.mg c P) (hcode : X.env.code = .ref c) (S : GxS X.env.scope X.N scope N js) (hi : PI X tg iter wi)
    (hgt : ∀ C code s H fp pn, PG (gxCx X scope N C code s H fp pn) tg g)
    (hel : ∀ C code s H fp pn, Room k (gxCx X scope N C code s H fp pn).A → PE (gxCx X scope N C code s H fp pn) elt te)
    (hs : ∀ v, genFold iter X.env v = pure v := by intro _; rfl) (hb : bootBuiltins "all" = some (.builtin "all") := by decide +kernel)
    (he : starEach [.GeneratorExp elt [⟨tg, iter, [], 0⟩] scope gpos] X.env = (false, eval (.GeneratorExp elt [⟨tg, iter, [], 0⟩] scope gpos) X.env) :: starEach [] X.env := by rfl) :
    PE X (.Call (.Name "all" p) [.GeneratorExp elt [⟨tg, iter, [], 0⟩] scope gpos] [] pos) (tAllG P js wi g te) := by
  refine ⟨fun pins s σ H Q I h => ?_⟩
  refine wpAny_Call_Name_kw (ld_blt I hg hm hb ?_)
  refine PyProof.Rows.callWith_builtin1 ?_ he (by rfl)
  rw [he]
  show wpAny _ _ (spliced ((false, eval (.GeneratorExp elt [⟨tg, iter, [], 0⟩] scope gpos) X.env) :: backTo pos (starEach [] X.env))) _ _ s
  have hh : X.A.handled = none := hr.hd
  have hroom : X.A.depth < recursionLimit := by have := hr.dp; omega
  refine Calls.spliced_cons (wpAny_GeneratorExp_make S.co (closure_ok fun y hy hf => ?_) S.nocell S.dot S.kind hroom ?_ hs)
  · exact I.ok.has y.1 (S.frees y hy hf)
  refine thn (hi.run pins s σ H _ I h) fun v s1 h1 => thn h1 fun itv s2 ⟨it, fp, tn, J, H2, eit, I2, T, st2, f2, ⟨ps, hP, ht⟩, q⟩ => ?_
  subst eit
  refine ⟨I2.nolimit, ?_⟩
  have hPs : s2.heap.get? P = some { cls := .none, data := .fields ps } := I2.hok P _ hP
  have hPlt : P < s2.heap.objs.size := Heap.lt_size hPs
  have cd : PySem.W.CodeHd s2.heap c P := TB.code.keeps fun b u e => I2.bk b u e
  have cont : ∀ (code : Value) (h3 : Heap) (tk : Nat) (ps' : Array Value), Heap.ExtBut P s2.heap h3 → s2.heap.objs.size ≤ h3.objs.size → h3.get? P = some { cls := .none, data := .fields ps' } → (∃ more, ps' = ps ++ more) → TriplesOk ps'.toList →
      wpAny (model X.prog X.w) X.A (builtinsFor X.env.globals X.env.builtins) (fun bi s₄ =>
        ∀ h', h'.Ns s₄.heap.objs.size (fun y => if y = ".0" then some (.ref it) else none) → Heap.SameBut s₄.heap.objs.size (s₄.heap.push { cls := .type "frame", data := .dict #[] }) h' →
          wpAny (model X.prog X.w) X.A (spliced (backTo pos (starEach [] X.env))) (fun vs s₅ => wpAny (model X.prog X.w) X.A (call (.builtin "all") (.ref h'.objs.size :: vs)) (EP X pins σ Q) X.xe s₅) X.xe { s₄ with
            gens := s₄.gens.push (.fresh (.compStart (.GeneratorExp elt [⟨tg, iter, [], 0⟩] scope gpos) 0 (.ref it) .none (genEnv scope (cloFrom X.env.cells scope.names []) s₄.heap.objs.size code bi X.env))),
            toks := s₄.toks + 1 + 1 + 1,
            heap := h'.push { cls := .type "generator", data := .fields #[.int s₄.gens.size 0, .str "<genexpr>" (s₄.toks + 1), .str (X.env.qual ++ "<genexpr>") (s₄.toks + 1 + 1)] } }) X.xe { s2 with heap := h3, toks := tk } := by
    intro code h3 tk ps' hx hsz hP3 hmore ht3
    obtain ⟨more, em⟩ := hmore
    obtain ⟨bm, ob, e1, e2, e3, e4, e5, e6, e7, e8⟩ := TB.bm
    have keep3 : ∀ b u, b ≠ P → s2.heap.get? b = some u → h3.get? b = some u := fun b u hb e => hx b u hb e
    refine wpAny_builtinsFor (m := X.mg) (by rw [I2.ok.glob]; exact (I2.mod.glob.keeps I2.bk).extBut hx TB.gP) e1 e2 (keep3 _ _ e4 (I2.bk _ _ e5)) e6 e7 e8 ?_
    intro h' hn' hs'
    have hsz' : h'.objs.size = h3.objs.size + 1 := by rw [hs'.1, Heap.size_push]
    have keep' : ∀ b o, h3.get? b = some o → h'.get? b = some o := fun b o e => hs'.extBut b o (Nat.ne_of_lt (Heap.lt_size e)) (Heap.get?_push_of_some _ e)
    refine Calls.spliced_nil ?_
    -- the state behind the making
    have core : ∀ (go : Obj) (nm qn : Value) (tk5 : Nat) (gs : GenState), go.cls = .type "generator" → go.data = .fields #[.int s2.gens.size 0, nm, qn] → go.slots = #[] → (∀ h : Heap, (h.push go).get? h.objs.size = some go) →
        gs = .fresh (.compStart (.GeneratorExp elt [⟨tg, iter, [], 0⟩] scope gpos) 0 (.ref it) .none (gxEnv X scope h3.objs.size code)) →
        wpAny (model X.prog X.w) X.A (call (.builtin "all") [.ref h'.objs.size]) (EP X pins σ Q) X.xe { s2 with gens := s2.gens.push gs, toks := tk5, heap := h'.push go } := by
      intro go nm qn tk5 gs hgc hgd hgs hgp egs
      have hgen : ∀ h : Heap, h.get? h'.objs.size = some go → h.IsGen h'.objs.size s2.gens.size := fun h e => ⟨go, nm, qn, e, hgc, hgd, hgs⟩
      have hat : (h'.push go).get? h'.objs.size = some go := hgp _
      have bareN : AllBare (s2.gens.push gs) := AllBare.push I2.bare (by rw [egs]; rfl)
      have keep5 : ∀ b u, b ≠ P → s2.heap.get? b = some u → (h'.push go).get? b = some u := fun b u hb e => Heap.get?_push_of_some _ (keep' b u (keep3 b u hb e))
      have hP5 : (h'.push go).get? P = some { cls := .none, data := .fields (ps ++ more) } := by
        rw [← em]
        exact Heap.get?_push_of_some _ (keep' P _ hP3)
      have J5 := inv_tab (more := more) (h' := h'.push go) (g' := s2.gens.push gs) (d' := s2.drawn) (t' := tk5) I2 hP keep5 hP5 bareN
      have hT : Tabbed P H2 (upd H2 P (.tbl (ps ++ more))) := ⟨⟨ps ++ more, upd_same, by rw [← em]; exact ht3⟩, fun b hb => upd_ne hb⟩
      obtain ⟨W, ⟨m0, w0⟩, turn⟩ := q _ hT
      have nP : ∀ b u, H2 b = some u → (∀ q, u ≠ .tbl q) → b ≠ P := fun b u e q z => by
        rw [z, hP] at e
        exact q ps (Option.some.inj e).symm
      have nN : ∀ b, H2 b = none → b ≠ P := fun b e z => by
        rw [z, hP] at e
        cases e
      have un : Un (frs X.stack) [] H2 (upd H2 P (.tbl (ps ++ more))) s2.heap (h'.push go) := by
        refine ⟨fun b o e n _ _ => keep5 b o (nN b n) e, fun b o e n _ _ => ⟨o.slots, keep5 b o (nN b n) e⟩, fun b o _ n _ => by rw [upd_ne (nN b n)]; exact n, fun b o e _ => ?_, fun b xs e => by rw [upd_ne (nP b _ e fun q z => by cases z)]; exact e, fun b o u e => by rw [upd_ne (nP b _ e fun q z => by cases z)]; exact e, fun b qs e => ?_⟩
        · by_cases hb : b = P
          · rw [hb]
            exact ⟨_, hP5⟩
          · exact ⟨o, keep5 b o hb e⟩
        · by_cases hb : b = P
          · rw [hb, hP] at e
            cases e
            rw [hb, upd_same]
            exact ⟨more, rfl⟩
          · rw [upd_ne hb, e]
            exact ⟨#[], by simp⟩
      have ofp : ∀ b ∈ fp, ∃ o, s2.heap.get? b = some o := fun b hb => by
        obtain ⟨o, e, _⟩ := T.obj _ _ st2 b hb
        exact ⟨o, e⟩
      have fpP : ∀ b ∈ fp, b ≠ P := fun b hb => nN b (f2 b hb).1
      have hCa : h'.objs.size ≠ h3.objs.size := by rw [hsz']; exact Nat.succ_ne_self _
      have hSa : s2.heap.objs.size ≤ h'.objs.size := by rw [hsz']; exact Nat.le_succ_of_le hsz
      have Ig : L2.Inv (gxCx X scope N h3.objs.size code s2 H2 fp [(h'.objs.size, go)]) [] (capt js σ) (upd H2 P (.tbl (ps ++ more))) { s2 with gens := s2.gens.push gs, toks := tk5, heap := h'.push go } :=
        inv_gx hh S I2 f2 ofp hsz rfl bareN un (hn'.push _) J5.hok hat hCa hSa (fun v z => by rw [hgd] at z; cases z) fun b hb => by
          rw [upd_ne fun z => absurd (Nat.lt_of_lt_of_le hPlt (by rw [← z]; exact hb)) (Nat.lt_irrefl _)]
          exact I2.hok.fresh hb
      have stat : ∀ H', (∀ b ∈ fp, H' b = none) → ∀ b ∈ fp, FpOk (gxCx X scope N h3.objs.size code s2 H2 fp [(h'.objs.size, go)]) [] H' b := fun H' hn b hb => by
        obtain ⟨h1, h2⟩ := Ig.ok.exf b hb
        refine ⟨hn b hb, h1, Ig.ok.exfs b hb, .inl hb, h2, fun p hp => ?_⟩
        have e : p = (h'.objs.size, go) := by simpa [gxCx] using hp
        rw [e]
        obtain ⟨o, ho⟩ := ofp b hb
        exact Nat.ne_of_gt (Nat.lt_of_lt_of_le (Heap.lt_size ho) hSa)
      have genI : ∀ σ H s, L2.Inv (gxCx X scope N h3.objs.size code s2 H2 fp [(h'.objs.size, go)]) [] σ H s → s.heap.IsGen h'.objs.size s2.gens.size := fun σ H s J => hgen _ (J.pin (h'.objs.size, go) (List.mem_append_left _ (List.mem_singleton.mpr rfl))).1
      -- back in the def
      have back : ∀ {σ' : L2.St} {H' : Hp} {s' : Shared}, L2.Inv (gxCx X scope N h3.objs.size code s2 H2 fp [(h'.objs.size, go)]) [] σ' H' s' → L2.Inv X pins σ H' s' := fun {σ' H' s'} J =>
        I2.call' (ch := fp) J.os J.base J.hok J.bare fun b hb => by
          obtain ⟨_, f1, _, f3, f4, f5⟩ := f2 b hb
          exact ⟨f3, f1, f4, f5⟩
      have hel' := hel h3.objs.size code s2 H2 fp [(h'.objs.size, go)] (gxRoom hr _)
      have hgt' := hgt h3.objs.size code s2 H2 fp [(h'.objs.size, go)]
      have loop := gx_seg (Xg := gxCx X scope N h3.objs.size code s2 H2 fp [(h'.objs.size, go)]) (A := X.A.in1.in1) (scope := scope) (pos := gpos) (iter := iter) T hgt' hel' (fun _ _ h => h) rfl S.co over_comp stat W (fun H' => Q (.bl true) H') (fun H' => Q (.bl false) H') turn
      refine call_function_tree F.kind_all F.plain_all F.entry_all (F.args_all1 _) ?_
      unfold Builtin.«all»
      refine wpAny_bind (m := oneArg "all" _) (wpAny_pure ?_)
      have hgen5 : (h'.push go).IsGen h'.objs.size s2.gens.size := hgen _ hat
      refine wpAny_bind (wpAny_pyIter_gen (s := { s2 with gens := s2.gens.push gs, toks := tk5, heap := h'.push go }) hgen5 ?_)
      refine wpAny_pure ⟨plainId_quiet F.plain_all_loop _, ?_⟩
      refine gx_all (Xg := gxCx X scope N h3.objs.size code s2 H2 fp [(h'.objs.size, go)]) (fp := fp) (Qt := fun H' => Q (.bl true) H') (Qf := fun H' => Q (.bl false) H') (g := s2.gens.size) hh hroom genI (fun σ' H' s1 h' J fr qt hk => ?_) (fun σ' H' s1 gs' hbg J fr qf => ?_) m0 _ hgen5 Ig.nolimit ⟨gs, ?_, ?_⟩
      · exact ⟨.bl true, H', Inv.after (back J) rfl hk (allBare_setGen (s := s1) J.bare rfl), rfl, qt⟩
      · exact ⟨.bl false, H', Inv.after (back J) rfl (fun _ _ e => e) (allBare_setGen (s := s1) J.bare hbg), rfl, qf⟩
      · exact Array.getElem?_push_size ..
      · rw [egs]
        refine ⟨rfl, ?_⟩
        have wk : Woke { s2 with gens := s2.gens.push gs, toks := tk5, heap := h'.push go } (({ s2 with gens := s2.gens.push gs, toks := tk5, heap := h'.push go } : Shared).setGen s2.gens.size .running) :=
          ⟨rfl, rfl, allBare_setGen (s := { s2 with gens := s2.gens.push gs, toks := tk5, heap := h'.push go }) bareN rfl⟩
        have st5 : tn 0 (h'.push go) := T.keep _ _ _ st2 fun b hb o e => keep5 b o (fpP b hb) e
        rw [egs] at wk Ig
        refine gx_start (Xg := gxCx X scope N h3.objs.size code s2 H2 fp [(h'.objs.size, go)]) T st5 (loop m0 0 m0 _ _ _ _ (Nat.le_refl _) (Inv.woke Ig wk) st5 (fun b hb => ?_) w0)
        rw [upd_ne (fpP b hb)]
        exact (f2 b hb).1
    exact core _ _ _ _ _ rfl rfl rfl (fun h => Heap.get?_push_size _ rfl) rfl
  cases hf : codeAmong gpos ps.toList with
  | none =>
    refine wpAny_genexprCodeX hcode (cd.code hPs ht) (cd.tab hPs) hf fun c' h' tk hx hge hlt hco' _ htab' _ => ?_
    obtain ⟨o1, vs, f1, tf, fl, tg, inF, tx, tt, op, _, _, _, _, _, _, _, _, _, htr, _⟩ := hco'
    exact cont _ h' tk _ hx (Nat.le_trans hge (Nat.le_of_lt hlt)) htab'.2 ⟨_, rfl⟩ htr
  | some cv =>
    refine wpAny_genexprCode_hit hcode (cd.code hPs ht) hf ?_
    exact cont cv s2.heap s2.toks ps (Heap.ExtBut.refl _ _) (Nat.le_refl _) hPs ⟨#[], by simp⟩ ht
end Gx


namespace Mint
open PySem PySem.Spec PyProof.Rows L2 GxR Gx

/-! ### what a call keeps -/
def kp (dk : Bool) : HO → Bool
  | .tbl _ => false
  | .dK _ => dk
  | _ => true
structure Ext (dk : Bool) (H H' : Hp) : Prop where
  obj : ∀ b o, kp dk o = true → H b = some o → H' b = some o
  tab : ∀ P, TabG H P → TabG H' P
  non : ∀ b, H' b = none → H b = none
abbrev ExtP := Ext true
abbrev ExtL := Ext false
section
variable {dk : Bool} {H H1 H2 : Hp} {K : PySem.W.Frag}
theorem Ext.refl (dk : Bool) (H : Hp) : Ext dk H H := ⟨fun _ _ _ h => h, fun _ h => h, fun _ h => h⟩
theorem Ext.trans (a : Ext dk H H1) (b : Ext dk H1 H2) : Ext dk H H2 := ⟨fun c o k h => b.obj c o k (a.obj c o k h), fun P h => b.tab P (a.tab P h), fun p h => a.non p (b.non p h)⟩
theorem Ext.weak (a : ExtP H H1) : Ext dk H H1 := ⟨fun c o k h => a.obj c o (by cases o <;> first | rfl | exact k) h, a.tab, a.non⟩
theorem Ext.upd_new {p : Addr} {o : HO} (a : Ext dk H H1) (h : H p = none) : Ext dk H (upd H1 p o) := by
  refine ⟨fun c u k e => ?_, fun P ⟨ps, e, t⟩ => ?_, fun c e => ?_⟩
  · rw [upd_ne (ne_of_none e h)]
    exact a.obj c u k e
  · obtain ⟨ps', e', t'⟩ := a.tab P ⟨ps, e, t⟩
    exact ⟨ps', by rw [upd_ne (ne_of_none e h)]; exact e', t'⟩
  · by_cases z : c = p
    · rw [z, upd_same] at e
      cases e
    · rw [upd_ne z] at e
      exact a.non c e
theorem Ext.new {p : Addr} (h : H p = none) (o : HO) : Ext dk H (upd H p o) := (Ext.refl dk H).upd_new h
/-- a dict is written -/
theorem Ext.upd_dK {d : Addr} {kvs kvs' : List (Key × V)} (a : ExtL H H1) (h : H d = some (.dK kvs)) : ExtL H (upd H1 d (.dK kvs')) := by
  refine ⟨fun c u k e => ?_, fun P ⟨ps, e, t⟩ => ?_, fun c e => ?_⟩
  · have hc : c ≠ d := fun z => by
      rw [z, h] at e
      cases e
      cases k
    rw [upd_ne hc]
    exact a.obj c u k e
  · obtain ⟨ps', e', t'⟩ := a.tab P ⟨ps, e, t⟩
    exact ⟨ps', by rw [upd_ne (ne_of e h fun z => by cases z)]; exact e', t'⟩
  · by_cases z : c = d
    · rw [z, upd_same] at e
      cases e
    · rw [upd_ne z] at e
      exact a.non c e
theorem Ext.of_tabbed {P : Addr} (h : TabG H P) (t : Tabbed P H H1) : Ext dk H H1 := by
  obtain ⟨ps, e, _⟩ := h
  have ne : ∀ b o, kp dk o = true → H b = some o → b ≠ P := fun b o k q z => by
    rw [z, e] at q
    cases q
    cases k
  refine ⟨fun b o k q => (t.2 b (ne b o k q)).trans q, fun Q hq => ?_, fun b q => ?_⟩
  · by_cases z : Q = P
    · rw [z]
      exact t.1
    · obtain ⟨qs, e', t'⟩ := hq
      exact ⟨qs, (t.2 Q z).trans e', t'⟩
  · by_cases z : b = P
    · obtain ⟨ps', e', _⟩ := t.1
      rw [z, e'] at q
      cases q
    · exact (t.2 b z).symm.trans q
theorem Ext.rd {a : Addr} {u : HO} (e : Ext dk H H1) (k : kp dk u = true) (h : Rd H a u) : Rd H1 a u := by
  rcases h with h | ⟨o, h⟩
  · exact .inl (e.obj _ _ k h)
  · exact .inr ⟨o, e.obj _ _ rfl h⟩
theorem Ext.sqL {a : Addr} {xs : List V} (e : Ext dk H H1) (h : SqL K H a xs) : SqL K H1 a xs := by
  rcases h with h | h
  · exact .inl (e.rd rfl h)
  · exact .inr h
theorem Ext.sqT {a : Addr} {xs : List V} (e : Ext dk H H1) (h : SqT K H a xs) : SqT K H1 a xs := by
  rcases h with h | h
  · exact .inl (e.rd rfl h)
  · exact .inr h
mutual
theorem Ext.dp (e : Ext dk H H1) : ∀ {d : PyData} {v : V}, Dp K H v d → Dp K H1 v d
  | _, _, .non => .non
  | _, _, .bl b => .bl b
  | _, _, .int i => .int i
  | _, _, .str x => .str x
  | _, _, .lst h t => .lst (e.sqL h) (Ext.dps e t)
  | _, _, .tup h t => .tup (e.sqT h) (Ext.dps e t)
theorem Ext.dps (e : Ext dk H H1) : ∀ {ds : List PyData} {vs : List V}, DpAll K H vs ds → DpAll K H1 vs ds
  | _, _, .nil => .nil
  | _, _, .cons h t => .cons (Ext.dp e h) (Ext.dps e t)
end
end
theorem dpAll_len {K : PySem.W.Frag} {H : Hp} : ∀ {vs : List V} {ds : List PyData}, DpAll K H vs ds → vs.length = ds.length
  | _, _, .nil => rfl
  | _, _, .cons _ t => congrArg (· + 1) (dpAll_len t)
theorem dpAll_get {K : PySem.W.Frag} {H : Hp} : ∀ {vs : List V} {ds : List PyData} {i : Nat} {v : V}, DpAll K H vs ds → vs[i]? = some v → ∃ d, ds[i]? = some d ∧ Dp K H v d
  | _, _, _, _, .nil, e => by simp at e
  | _, _, 0, _, .cons h _, e => by simp at e; subst e; exact ⟨_, rfl, h⟩
  | _, _, i + 1, v, .cons _ t, e => by
    obtain ⟨d, h1, h2⟩ := dpAll_get (i := i) (v := v) t (by simpa using e)
    exact ⟨d, by simpa using h1, h2⟩
theorem dpAll_at {K : PySem.W.Frag} {H : Hp} : ∀ {vs : List V} {ds : List PyData} {i : Nat} {d : PyData}, DpAll K H vs ds → ds[i]? = some d → ∃ v, vs[i]? = some v ∧ Dp K H v d
  | _, _, _, _, .nil, e => by simp at e
  | _, _, 0, _, .cons h _, e => by simp at e; subst e; exact ⟨_, rfl, h⟩
  | _, _, i + 1, d, .cons _ t, e => by
    obtain ⟨v, h1, h2⟩ := dpAll_at (i := i) (d := d) t (by simpa using e)
    exact ⟨v, by simpa using h1, h2⟩

/-! ### types -/
def tyName : PyData → String
  | .none => "NoneType" | .bool _ => "bool" | .int _ => "int" | .str _ => "str" | .list _ => "list" | .tuple _ => "tuple" | .dict _ => "dict"
theorem Dp.ty {K : PySem.W.Frag} {H : Hp} {v : V} {d : PyData} (h : Dp K H v d) : TyX K H v (.type (tyName d)) := by
  cases h with
  | non => exact .base .non
  | bl b => exact .base (.bl b)
  | int i => exact .base (.int i)
  | str x => exact .base (.str x)
  | lst h _ =>
    rcases h with (h | ⟨o, h⟩) | ⟨o, its, n, h, c, _⟩
    · exact .base (.lst h)
    · exact .base (.frz h)
    · exact .kList h c
  | tup h _ =>
    rcases h with (h | ⟨o, h⟩) | ⟨o, its, n, h, c, _⟩
    · exact .base (.tup h)
    · exact .fTuple h
    · exact .kTuple h c
def gInt : PyData → Bool
  | .int _ => true | .bool _ => true | _ => false
def gBool : PyData → Bool
  | .bool _ => true | _ => false
def gStr : PyData → Bool
  | .str _ => true | _ => false
def gTup : PyData → Bool
  | .tuple _ => true | _ => false
theorem isa_int (K : PySem.W.Frag) (d : PyData) (h : ∀ kvs, d ≠ .dict kvs) : PySem.W.kitOne K (.type (tyName d)) (.type "int") = some (gInt d) := by
  cases d with
  | none => exact kit_ty (show kitB "NoneType" "int" = some false by decide +kernel)
  | bool b => exact kit_ty (show kitB "bool" "int" = some true by decide +kernel)
  | int i => exact kit_ty (show kitB "int" "int" = some true by decide +kernel)
  | str x => exact kit_ty (show kitB "str" "int" = some false by decide +kernel)
  | list x => exact kit_ty (show kitB "list" "int" = some false by decide +kernel)
  | tuple x => exact kit_ty (show kitB "tuple" "int" = some false by decide +kernel)
  | dict x => exact absurd rfl (h x)
theorem isa_bool (K : PySem.W.Frag) (d : PyData) (h : ∀ kvs, d ≠ .dict kvs) : PySem.W.kitOne K (.type (tyName d)) (.type "bool") = some (gBool d) := by
  cases d with
  | none => exact kit_ty (show kitB "NoneType" "bool" = some false by decide +kernel)
  | bool b => exact kit_ty (show kitB "bool" "bool" = some true by decide +kernel)
  | int i => exact kit_ty (show kitB "int" "bool" = some false by decide +kernel)
  | str x => exact kit_ty (show kitB "str" "bool" = some false by decide +kernel)
  | list x => exact kit_ty (show kitB "list" "bool" = some false by decide +kernel)
  | tuple x => exact kit_ty (show kitB "tuple" "bool" = some false by decide +kernel)
  | dict x => exact absurd rfl (h x)
theorem isa_str (K : PySem.W.Frag) (d : PyData) (h : ∀ kvs, d ≠ .dict kvs) : PySem.W.kitOne K (.type (tyName d)) (.type "str") = some (gStr d) := by
  cases d with
  | none => exact kit_ty (show kitB "NoneType" "str" = some false by decide +kernel)
  | bool b => exact kit_ty (show kitB "bool" "str" = some false by decide +kernel)
  | int i => exact kit_ty (show kitB "int" "str" = some false by decide +kernel)
  | str x => exact kit_ty (show kitB "str" "str" = some true by decide +kernel)
  | list x => exact kit_ty (show kitB "list" "str" = some false by decide +kernel)
  | tuple x => exact kit_ty (show kitB "tuple" "str" = some false by decide +kernel)
  | dict x => exact absurd rfl (h x)
theorem isa_tuple (K : PySem.W.Frag) (d : PyData) (h : ∀ kvs, d ≠ .dict kvs) : PySem.W.kitOne K (.type (tyName d)) (.type "tuple") = some (gTup d) := by
  cases d with
  | none => exact kit_ty (show kitB "NoneType" "tuple" = some false by decide +kernel)
  | bool b => exact kit_ty (show kitB "bool" "tuple" = some false by decide +kernel)
  | int i => exact kit_ty (show kitB "int" "tuple" = some false by decide +kernel)
  | str x => exact kit_ty (show kitB "str" "tuple" = some false by decide +kernel)
  | list x => exact kit_ty (show kitB "list" "tuple" = some false by decide +kernel)
  | tuple x => exact kit_ty (show kitB "tuple" "tuple" = some true by decide +kernel)
  | dict x => exact absurd rfl (h x)
theorem Dp.nodict {K : PySem.W.Frag} {H : Hp} {v : V} {d : PyData} (h : Dp K H v d) : ∀ kvs, d ≠ .dict kvs := fun kvs z => by
  subst z
  cases h

/-! ### a def whose code object is known -/
structure FunC (K : PySem.W.Frag) (x qual : Str) (st : Stmt) (f : Addr) (fd : FuncData) (c : Addr) : Prop where
  ex : ∃ (oc : Value) (od : Option Addr) (kV doc pm : Value) (an : Option Addr) (ct : Value) (osl : Array (Option Value)),
    fd = PySem.W.fnOf x qual (defArgs st) (defBody st) (defScope st) .none kV doc pm an (.ref c) ct ∧ K.lookup f = some ⟨oc, od, .func fd, osl⟩ ∧ PySem.W.codeIn K (.ref c) qual = true
  kp : PySem.W.keepIn K (.ref f) = true
section
variable {P : Program} {w : World} {K : PySem.W.Frag} {mg : Str → Option Value} {base : Heap}
theorem FunC.fun {x qual : Str} {st : Stmt} {f c : Addr} {fd : FuncData} (F : FunC K x qual st f fd c) : Fun K x qual st f fd := by
  obtain ⟨oc, od, kV, doc, pm, an, ct, osl, h⟩ := F.ex
  exact ⟨⟨oc, od, kV, doc, pm, an, _, ct, osl, h⟩, F.kp⟩
theorem FunC.ok {x qual : Str} {st : Stmt} {f c : Addr} {fd : FuncData} {N ps : List Str} {k : Nat} {sp : Sp} (F : FunC K x qual st f fd c) (S : FnScope N ps (defScope st)) (len : ∀ vs H Q E, sp vs H Q E → vs.length = ps.length)
    (hbody : ∀ (A : Around) (outer : List Env) (s : Shared) (H : Hp) (vs : List V) (Q : VK) (E : XK), Room k (A.deeper (envOfC qual (defScope st) s.heap.objs.size f (.ref c))) → sp vs H Q E →
      ∃ t, PSs (cxOf CX0 P w K mg base N qual (defScope st) f (.ref c) A outer s H E).nox (defBody st) t ∧ t { nx := fun _ H' => Q .non H', rt := Q } (start N vs) H) : FnOk P w K mg base CX0 (k + 1) f fd ps sp := by
  obtain ⟨oc, od, kV, doc, pm, an, ct, osl, rfl, lk, hcd⟩ := F.ex
  refine fn_of lk hcd S len fun A outer s H vs Q E hr hsp => ?_
  obtain ⟨t, h, q⟩ := hbody A outer s H vs Q E hr hsp
  exact ⟨t, h.nox, q⟩
theorem funC_mk {x qual : Str} {st : Stmt} {f c : Addr} {oc : Value} {od an : Option Addr} {osl : Array (Option Value)} {kV doc pm ct : Value} (l : K.lookup f = some ⟨oc, od, .func (PySem.W.fnOf x qual (defArgs st) (defBody st) (defScope st) .none kV doc pm an (.ref c) ct), osl⟩)
    (h : PySem.W.codeIn K (.ref c) qual = true) (k : PySem.W.keepIn K (.ref f) = true) : FunC K x qual st f (PySem.W.fnOf x qual (defArgs st) (defBody st) (defScope st) .none kV doc pm an (.ref c) ct) c := ⟨⟨oc, od, kV, doc, pm, an, ct, osl, rfl, l, h⟩, k⟩
end

/-! ### promises -/
abbrev Tabs (Ps : List Addr) (H : Hp) : Prop := ∀ P ∈ Ps, TabG H P
/-- a def that looks at data and answers with True or False, and changes nothing but tables -/
def spB (K : PySem.W.Frag) (Ps : List Addr) (n : Nat) (ok : List PyData → Prop) (f : List PyData → Bool) : Sp := fun vs H Q _ =>
  ∃ ds : List PyData, DpAll K H vs ds ∧ ds.length = n ∧ ok ds ∧ Tabs Ps H ∧ ∀ H', ExtP H H' → Q (.bl (f ds)) H'
theorem spB_len {K : PySem.W.Frag} {Ps : List Addr} {n : Nat} {ok : List PyData → Prop} {f : List PyData → Bool} {vs : List V} {H : Hp} {Q : VK} {E : XK} (h : spB K Ps n ok f vs H Q E) : vs.length = n := by
  obtain ⟨ds, h1, h2, _⟩ := h
  rw [dpAll_len h1, h2]
theorem Ext.tabs {dk : Bool} {H H1 : Hp} {Ps : List Addr} (e : Ext dk H H1) (h : Tabs Ps H) : Tabs Ps H1 := fun P hp => e.tab P (h P hp)
/-- the built-in names stand as they are -/
structure Glb (mg : Str → Option Value) : Prop where
  isinstance : mg "isinstance" = none
  int : mg "int" = none
  bool : mg "bool" = none
  str : mg "str" = none
  tuple : mg "tuple" = none
  len : mg "len" = none
  all : mg "all" = none
  max : mg "max" = none
  min : mg "min" = none
  list : mg "list" = none
  zip : mg "zip" = none
  set : mg "set" = none
  enumerate : mg "enumerate" = none
  abs : mg "abs" = none
  range : mg "range" = none

theorem tVar_mono (i : Nat) : ∀ σ H (Q Q' : VK), (∀ v H1, Q v H1 → Q' v H1) → tVar i σ H Q → tVar i σ H Q' := fun σ H Q Q' m ⟨v, e, q⟩ => ⟨v, e, m _ _ q⟩
/-! isinstance(x, T): the answer is known by the data -/
section
variable {X : Cx} {e : Expr} {te : TE} {p p2 pos : Pos}
def tIsa (K : PySem.W.Frag) (g : PyData → Bool) (te : TE) : TE := fun σ H Q => te σ H fun v H1 => ∃ d, Dp K H1 v d ∧ Q (.bl (g d)) H1
theorem pe_isa {T : Str} {n : String} {g : PyData → Bool} (hg : Gl X "isinstance") (hm : X.mg "isinstance" = none) (hg2 : Gl X T) (hm2 : X.mg T = none) (hv : bootBuiltins T = some (.type n))
    (k : ∀ d : PyData, (∀ kvs, d ≠ .dict kvs) → PySem.W.kitOne X.K (.type (tyName d)) (.type n) = some (g d)) (he : PE X e te) (hmono : ∀ σ H Q Q', (∀ v H1, Q v H1 → Q' v H1) → te σ H Q → te σ H Q') (hn : T ≠ "__name__" := by decide) (hd : (T == ("__debug__" : Str)) = false := by decide)
    (h1 : starEach [e, .Name T p2] X.env = (false, eval e X.env) :: starEach [.Name T p2] X.env := by rfl) :
    PE X (.Call (.Name "isinstance" p) [e, .Name T p2] [] pos) (tIsa X.K g te) := by
  have hc := pe_callB (X := X) (call_isi (X := X)) (p := p) (pos := pos) hg hm (by decide +kernel) (pa_cons he (pa_cons (pe_bltn (v := .ty n) (pos := p2) hg2 hm2 hv rfl hn hd) pa_nil) h1) (he := h1)
  refine ⟨fun pins s σ H Q I h => hc.run pins s σ H Q I ?_⟩
  refine hmono σ H _ _ (fun v H1 ⟨d, hd, q⟩ => ?_) h
  exact ⟨v, .ty n, _, _, _, rfl, .ty n, Dp.ty hd, k d (Dp.nodict hd), q⟩
end
section
variable {X : Cx} {p p2 p3 pos : Pos} {x : Str}
theorem pe_isaInt (G : Glb X.mg) (i : Nat) (hg : Gl X "isinstance" := by rfl) (hg2 : Gl X "int" := by rfl) (he : PE X (.Name x p3) (tVar i) := by exact pv _) (h1 : starEach [.Name x p3, .Name "int" p2] X.env = (false, eval (.Name x p3) X.env) :: starEach [.Name "int" p2] X.env := by rfl) :
    PE X (.Call (.Name "isinstance" p) [.Name x p3, .Name "int" p2] [] pos) (tIsa X.K gInt (tVar i)) := pe_isa hg G.isinstance hg2 G.int boot_int (isa_int X.K) he (tVar_mono i) (by decide) (by decide) h1
theorem pe_isaBool (G : Glb X.mg) (i : Nat) (hg : Gl X "isinstance" := by rfl) (hg2 : Gl X "bool" := by rfl) (he : PE X (.Name x p3) (tVar i) := by exact pv _) (h1 : starEach [.Name x p3, .Name "bool" p2] X.env = (false, eval (.Name x p3) X.env) :: starEach [.Name "bool" p2] X.env := by rfl) :
    PE X (.Call (.Name "isinstance" p) [.Name x p3, .Name "bool" p2] [] pos) (tIsa X.K gBool (tVar i)) := pe_isa hg G.isinstance hg2 G.bool (by decide +kernel) (isa_bool X.K) he (tVar_mono i) (by decide) (by decide) h1
theorem pe_isaStr (G : Glb X.mg) (i : Nat) (hg : Gl X "isinstance" := by rfl) (hg2 : Gl X "str" := by rfl) (he : PE X (.Name x p3) (tVar i) := by exact pv _) (h1 : starEach [.Name x p3, .Name "str" p2] X.env = (false, eval (.Name x p3) X.env) :: starEach [.Name "str" p2] X.env := by rfl) :
    PE X (.Call (.Name "isinstance" p) [.Name x p3, .Name "str" p2] [] pos) (tIsa X.K gStr (tVar i)) := pe_isa hg G.isinstance hg2 G.str (by decide +kernel) (isa_str X.K) he (tVar_mono i) (by decide) (by decide) h1
theorem pe_isaTup (G : Glb X.mg) (i : Nat) (hg : Gl X "isinstance" := by rfl) (hg2 : Gl X "tuple" := by rfl) (he : PE X (.Name x p3) (tVar i) := by exact pv _) (h1 : starEach [.Name x p3, .Name "tuple" p2] X.env = (false, eval (.Name x p3) X.env) :: starEach [.Name "tuple" p2] X.env := by rfl) :
    PE X (.Call (.Name "isinstance" p) [.Name x p3, .Name "tuple" p2] [] pos) (tIsa X.K gTup (tVar i)) := pe_isa hg G.isinstance hg2 G.tuple (by decide +kernel) (isa_tuple X.K) he (tVar_mono i) (by decide) (by decide) h1
end
end Mint


namespace Mint
open PySem PySem.Spec PyProof.Rows L2 GxR Gx

/-! ### all(elt for x in iter), the element a look: x in the first slot, the captured names behind it -/
theorem range_all_false {p : Nat → Bool} {n i : Nat} (hi : i < n) (h : p i = false) : (List.range n).all p = false := by
  rw [Bool.eq_false_iff]
  intro z
  have := List.all_eq_true.mp z i (List.mem_range.mpr hi)
  rw [h] at this
  cases this
theorem all_pure {P : Addr} {js : List (Option Nat)} {te : TE} {σ : L2.St} {H1 : Hp} {Q : VK} {J : It} (n : Nat) (p : Nat → Bool) (rest : L2.St) (hσ : capt js σ = none :: rest) (hT : TabG H1 P)
    (hgo : ∀ i H', i < n → ExtP H1 H' → J.go i H') (hstop : ∀ H', ExtP H1 H' → J.stop n H')
    (hel : ∀ i H', i < n → ExtP H1 H' → ∀ x H'', J.yld i H' x H'' → H'' = H' ∧ ∀ Qe : VK, (∀ H3, ExtP H' H3 → Qe (.bl (p i)) H3) → te (some x :: rest) H' Qe)
    (hQ : ∀ H', ExtP H1 H' → Q (.bl ((List.range n).all p)) H') :
    TabG H1 P ∧ ∀ H2, Tabbed P H1 H2 → ∃ W : Nat → Nat → L2.St → Hp → Prop, (∃ m, W 0 m (capt js σ) H2) ∧ ∀ i m σ' H', W i m σ' H' →
      (J.stop i H' ∧ Q (.bl true) H') ∨ (J.go i H' ∧ 0 < m ∧ ∀ x H'', J.yld i H' x H'' → gName 0 x σ' H'' fun σ2 H3 => te σ2 H3 fun v H4 => ∃ c, v = .bl c ∧ if c = true then ∃ m', m' < m ∧ W (i + 1) m' σ2 H4 else Q (.bl false) H4) := by
  refine ⟨hT, fun H2 ht => ⟨fun i m σ' H' => m = n - i ∧ i ≤ n ∧ ExtP H1 H' ∧ (∃ o, σ' = o :: rest) ∧ ∀ j, j < i → p j = true, ⟨n, rfl, Nat.zero_le _, .of_tabbed hT ht, ⟨none, hσ⟩, fun j hj => by omega⟩, ?_⟩⟩
  rintro i m σ' H' ⟨rfl, hi, e, ⟨o, rfl⟩, hp⟩
  by_cases hlt : i < n
  · refine .inr ⟨hgo i H' hlt e, by omega, fun x H'' hy => ?_⟩
    obtain ⟨rfl, q⟩ := hel i H' hlt e x H'' hy
    show te ((o :: rest).set 0 (some x)) H'' _
    refine q _ fun H3 e3 => ⟨p i, rfl, ?_⟩
    cases hpi : p i with
    | true => exact iteT ⟨n - (i + 1), by omega, rfl, hlt, e.trans e3, ⟨some x, rfl⟩, fun j hj => by
        by_cases z : j = i
        · rw [z]; exact hpi
        · exact hp j (by omega)⟩
    | false =>
      refine iteF ?_
      rw [← range_all_false hlt hpi]
      exact hQ _ (e.trans e3)
  · have e2 : i = n := by omega
    subst e2
    refine .inl ⟨hstop H' e, ?_⟩
    have z : (List.range i).all p = true := List.all_eq_true.mpr fun j hj => hp j (List.mem_range.mp hj)
    rw [← z]
    exact hQ _ e
theorem all_range_map {α : Type} (f : α → Bool) (l : List α) (p : Nat → Bool) (h : ∀ i x, l[i]? = some x → p i = f x) : (List.range l.length).all p = l.all f := by
  rw [Bool.eq_iff_iff, List.all_eq_true, List.all_eq_true]
  constructor
  · intro q x hx
    obtain ⟨i, hi, e⟩ := List.getElem_of_mem hx
    rw [← h i x (by rw [List.getElem?_eq_getElem hi, e])]
    exact q i (List.mem_range.mpr hi)
  · intro q i hi
    have hi' := List.mem_range.mp hi
    rw [h i l[i] (List.getElem?_eq_getElem hi')]
    exact q _ (List.getElem_mem hi')
/-- over the signs of a text -/
theorem all_str {P : Addr} {js : List (Option Nat)} {te : TE} {σ : L2.St} {H1 : Hp} {Q : VK} (x : Str) (f : Nat → Bool) (rest : L2.St) (hσ : capt js σ = none :: rest) (hT : TabG H1 P)
    (hel : ∀ c H', ExtP H1 H' → ∀ Qe : VK, (∀ H3, ExtP H' H3 → Qe (.bl (f c)) H3) → te (some (.str ⟨#[c]⟩) :: rest) H' Qe)
    (hQ : ∀ H', ExtP H1 H' → Q (.bl (x.cps.toList.all f)) H') :
    TabG H1 P ∧ ∀ H2, Tabbed P H1 H2 → ∃ W : Nat → Nat → L2.St → Hp → Prop, (∃ m, W 0 m (capt js σ) H2) ∧ ∀ i m σ' H', W i m σ' H' →
      ((Its x).stop i H' ∧ Q (.bl true) H') ∨ ((Its x).go i H' ∧ 0 < m ∧ ∀ v H'', (Its x).yld i H' v H'' → gName 0 v σ' H'' fun σ2 H3 => te σ2 H3 fun v H4 => ∃ c, v = .bl c ∧ if c = true then ∃ m', m' < m ∧ W (i + 1) m' σ2 H4 else Q (.bl false) H4) := by
  refine all_pure x.cps.toList.length (fun i => match x.cps.toList[i]? with | some c => f c | none => false) rest hσ hT (fun i H' hi e => ?_) (fun H' e => ?_) (fun i H' hi e v H'' hy => ?_) (fun H' e => ?_)
  · show i < x.cps.size
    simpa using hi
  · show x.cps.size ≤ x.cps.toList.length
    simp
  · obtain ⟨rfl, c, hc, rfl⟩ := hy
    refine ⟨rfl, fun Qe hq => hel c _ e Qe ?_⟩
    have e2 : x.cps.toList[i]? = some c := by rw [Array.getElem?_toList]; exact hc
    simp only [e2] at hq
    exact hq
  · have e3 := all_range_map f x.cps.toList (fun i => match x.cps.toList[i]? with | some c => f c | none => false) (fun i c h => by simp only [h])
    rw [e3]
    exact hQ H' e
/-- over a tuple of data -/
theorem all_tup {K : PySem.W.Frag} {P a : Addr} {js : List (Option Nat)} {te : TE} {σ : L2.St} {H1 : Hp} {Q : VK} {xs : List V} {ds : List PyData} (f : PyData → Bool) (rest : L2.St) (hσ : capt js σ = none :: rest) (hT : TabG H1 P) (hS : SqT K H1 a xs) (hD : DpAll K H1 xs ds)
    (hel : ∀ v d H', d ∈ ds → ExtP H1 H' → Dp K H' v d → ∀ Qe : VK, (∀ H3, ExtP H' H3 → Qe (.bl (f d)) H3) → te (some v :: rest) H' Qe)
    (hQ : ∀ H', ExtP H1 H' → Q (.bl (ds.all f)) H') :
    TabG H1 P ∧ ∀ H2, Tabbed P H1 H2 → ∃ W : Nat → Nat → L2.St → Hp → Prop, (∃ m, W 0 m (capt js σ) H2) ∧ ∀ i m σ' H', W i m σ' H' →
      ((Itt K a).stop i H' ∧ Q (.bl true) H') ∨ ((Itt K a).go i H' ∧ 0 < m ∧ ∀ v H'', (Itt K a).yld i H' v H'' → gName 0 v σ' H'' fun σ2 H3 => te σ2 H3 fun v H4 => ∃ c, v = .bl c ∧ if c = true then ∃ m', m' < m ∧ W (i + 1) m' σ2 H4 else Q (.bl false) H4) := by
  have hl := dpAll_len hD
  refine all_pure ds.length (fun i => match ds[i]? with | some d => f d | none => false) rest hσ hT (fun i H' hi e => ?_) (fun H' e => ?_) (fun i H' hi e v H'' hy => ?_) (fun H' e => ?_)
  · exact ⟨xs, xs[i]'(by omega), e.sqT hS, List.getElem?_eq_getElem (by omega)⟩
  · exact ⟨xs, e.sqT hS, by omega⟩
  · obtain ⟨rfl, hy⟩ := hy
    have hx := hy xs (e.sqT hS)
    obtain ⟨d, hd, hdp⟩ := dpAll_get hD hx
    refine ⟨rfl, fun Qe hq => hel v d _ (List.mem_of_getElem? hd) e (e.dp hdp) Qe ?_⟩
    simp only [hd] at hq
    exact hq
  · have e3 := all_range_map f ds (fun i => match ds[i]? with | some d => f d | none => false) (fun i d h => by simp only [h])
    rw [e3]
    exact hQ H' e
theorem all_pure2 {P : Addr} {js : List (Option Nat)} {te : TE} {σ : L2.St} {H1 : Hp} {Qt Qf : Hp → Prop} {J : It} (n : Nat) (p : Nat → Bool) (rest : L2.St) (hσ : capt js σ = none :: rest) (hT : TabG H1 P)
    (hgo : ∀ i H', i < n → ExtP H1 H' → J.go i H') (hstop : ∀ H', ExtP H1 H' → J.stop n H')
    (hel : ∀ i H', i < n → ExtP H1 H' → ∀ x H'', J.yld i H' x H'' → H'' = H' ∧ ∀ Qe : VK, (∀ H3, ExtP H' H3 → Qe (.bl (p i)) H3) → te (some x :: rest) H' Qe)
    (hQt : ∀ H', ExtP H1 H' → (List.range n).all p = true → Qt H') (hQf : ∀ H', ExtP H1 H' → (List.range n).all p = false → Qf H') :
    TabG H1 P ∧ ∀ H2, Tabbed P H1 H2 → ∃ W : Nat → Nat → L2.St → Hp → Prop, (∃ m, W 0 m (capt js σ) H2) ∧ ∀ i m σ' H', W i m σ' H' →
      (J.stop i H' ∧ Qt H') ∨ (J.go i H' ∧ 0 < m ∧ ∀ x H'', J.yld i H' x H'' → gName 0 x σ' H'' fun σ2 H3 => te σ2 H3 fun v H4 => ∃ c, v = .bl c ∧ if c = true then ∃ m', m' < m ∧ W (i + 1) m' σ2 H4 else Qf H4) := by
  refine ⟨hT, fun H2 ht => ⟨fun i m σ' H' => m = n - i ∧ i ≤ n ∧ ExtP H1 H' ∧ (∃ o, σ' = o :: rest) ∧ ∀ j, j < i → p j = true, ⟨n, rfl, Nat.zero_le _, .of_tabbed hT ht, ⟨none, hσ⟩, fun j hj => by omega⟩, ?_⟩⟩
  rintro i m σ' H' ⟨rfl, hi, e, ⟨o, rfl⟩, hp⟩
  by_cases hlt : i < n
  · refine .inr ⟨hgo i H' hlt e, by omega, fun x H'' hy => ?_⟩
    obtain ⟨rfl, q⟩ := hel i H' hlt e x H'' hy
    show te ((o :: rest).set 0 (some x)) H'' _
    refine q _ fun H3 e3 => ⟨p i, rfl, ?_⟩
    cases hpi : p i with
    | true => exact iteT ⟨n - (i + 1), by omega, rfl, hlt, e.trans e3, ⟨some x, rfl⟩, fun j hj => by
        by_cases z : j = i
        · rw [z]; exact hpi
        · exact hp j (by omega)⟩
    | false => exact iteF (hQf _ (e.trans e3) (range_all_false hlt hpi))
  · have e2 : i = n := by omega
    subst e2
    exact .inl ⟨hstop H' e, hQt _ e (List.all_eq_true.mpr fun j hj => hp j (List.mem_range.mp hj))⟩
/-- over a tuple of data, the two ways apart -/
theorem all_tup2 {K : PySem.W.Frag} {P a : Addr} {js : List (Option Nat)} {te : TE} {σ : L2.St} {H1 : Hp} {Qt Qf : Hp → Prop} {xs : List V} {ds : List PyData} (f : PyData → Bool) (rest : L2.St) (hσ : capt js σ = none :: rest) (hT : TabG H1 P) (hS : SqT K H1 a xs) (hD : DpAll K H1 xs ds)
    (hel : ∀ v d H', d ∈ ds → ExtP H1 H' → Dp K H' v d → ∀ Qe : VK, (∀ H3, ExtP H' H3 → Qe (.bl (f d)) H3) → te (some v :: rest) H' Qe)
    (hQt : ∀ H', ExtP H1 H' → ds.all f = true → Qt H') (hQf : ∀ H', ExtP H1 H' → ds.all f = false → Qf H') :
    TabG H1 P ∧ ∀ H2, Tabbed P H1 H2 → ∃ W : Nat → Nat → L2.St → Hp → Prop, (∃ m, W 0 m (capt js σ) H2) ∧ ∀ i m σ' H', W i m σ' H' →
      ((Itt K a).stop i H' ∧ Qt H') ∨ ((Itt K a).go i H' ∧ 0 < m ∧ ∀ v H'', (Itt K a).yld i H' v H'' → gName 0 v σ' H'' fun σ2 H3 => te σ2 H3 fun v H4 => ∃ c, v = .bl c ∧ if c = true then ∃ m', m' < m ∧ W (i + 1) m' σ2 H4 else Qf H4) := by
  have hl := dpAll_len hD
  have e3 := all_range_map f ds (fun i => match ds[i]? with | some d => f d | none => false) (fun i d h => by simp only [h])
  refine all_pure2 ds.length (fun i => match ds[i]? with | some d => f d | none => false) rest hσ hT (fun i H' hi e => ?_) (fun H' e => ?_) (fun i H' hi e v H'' hy => ?_) (fun H' e h => hQt H' e (by rw [← e3]; exact h)) (fun H' e h => hQf H' e (by rw [← e3]; exact h))
  · exact ⟨xs, xs[i]'(by omega), e.sqT hS, List.getElem?_eq_getElem (by omega)⟩
  · exact ⟨xs, e.sqT hS, by omega⟩
  · obtain ⟨rfl, hy⟩ := hy
    have hx := hy xs (e.sqT hS)
    obtain ⟨d, hd, hdp⟩ := dpAll_get hD hx
    refine ⟨rfl, fun Qe hq => hel v d _ (List.mem_of_getElem? hd) e (e.dp hdp) Qe ?_⟩
    simp only [hd] at hq
    exact hq
section
variable {X : Cx} {x : Str} {pos : Pos}
theorem pe_gI {i : Int} {t : Tok} (hm : X.mg x = some (.int i t)) (hg : Gl X x := by rfl) (hd : (x == ("__debug__" : Str)) = false := by decide) : PE X (.Name x pos) (tC (.int i)) := pe_glob hg hm ⟨t, rfl⟩ hd
theorem pe_gS {z : Str} {t : Tok} (hm : X.mg x = some (.str z t)) (hg : Gl X x := by rfl) (hd : (x == ("__debug__" : Str)) = false := by decide) : PE X (.Name x pos) (tC (.str z)) := pe_glob hg hm ⟨t, rfl⟩ hd
theorem pe_gR {a : Addr} (hm : X.mg x = some (.ref a)) (hg : Gl X x := by rfl) (hd : (x == ("__debug__" : Str)) = false := by decide) : PE X (.Name x pos) (tC (.ref a)) := pe_glob hg hm rfl hd
end
end Mint


namespace Mint
open PySem PySem.Spec PyProof.Rows L2 GxR Gx

/-! ### max of a tuple of ints -/
section
variable {prog : Program} {w : World} {A : Around} {E : Value → Shared → Prop} {s : Shared} {l : Addr} {xs : Array (Int × Tok)}
theorem iter_intTuple {Q : Value → Shared → Prop} {items : Array Value} (hl : s.heap.IsTuple l items)
    (h : ∀ s₂ : Shared, s₂ = { s with heap := s.heap.push { cls := .type "tuple_iterator", data := .fields #[.ref l, .int 0 0] } } → (s₂.heap.IsTupleIter s.heap.objs.size l 0 ∧ s₂.heap.IsTuple l items) →
      (∀ b ∈ [s.heap.objs.size, l], b < s₂.heap.objs.size) → l ≠ s.heap.objs.size → Q (.ref s.heap.objs.size) s₂) : wpAny (model prog w) A (pyIter (.ref l)) Q E s := by
  obtain ⟨ol, hol, r⟩ := id hl
  have hlt := Heap.lt_size hol
  refine wpAny_pyIter_tuple hl (h _ rfl ⟨⟨_, Heap.get?_push_size _ rfl, rfl, rfl⟩, hl.push _⟩ (fun b hb => ?_) (Nat.ne_of_lt hlt))
  show b < (s.heap.push _).objs.size
  rw [Heap.size_push]
  rcases List.mem_cons.mp hb with e | hb
  · rw [e]; exact Nat.lt_succ_self _
  · rcases List.mem_cons.mp hb with e | hb
    · rw [e]; exact Nat.lt_succ_of_lt hlt
    · cases hb
theorem max_intTuple {Q : Value → Shared → Prop} (hh : A.handled = none) (hl : s.heap.IsTuple l (intItems xs)) (hne : 0 < xs.size)
    (h : ∀ v h' tk, (intItems xs)[argBest (fun i j => decide (numAt xs i > numAt xs j)) (xs.size - 1)]? = some v → (∀ b o, s.heap.get? b = some o → h'.get? b = some o) → Q v { s with heap := h', toks := tk }) :
    wpAny (model prog w) A (call (.builtin "max") [.ref l]) Q E s := by
  refine call_max_walk (iter_intTuple hl fun s₂ e st hfp hlI => ?_)
  subst e
  refine ⟨_, _, _, _, _, _, _, rfl, Walks.tuple (A := A.in1) hh _ l hlI (intItems xs), st, hfp, by simpa [intItems] using hne, CmpOf.ints_gt (numAt xs) (fun _ _ => intItems_at), fun v h' tk hP hk => ?_⟩
  refine h v h' tk (by simpa [intItems] using hP) fun b o e => ?_
  refine hk b o (fun hm => ?_) (Heap.get?_push_of_some _ e)
  rcases List.mem_cons.mp hm with e1 | hm
  · exact absurd (e1 ▸ Heap.lt_size e) (Nat.lt_irrefl _)
  · cases hm
theorem max_rawT {its : List Value} {ns : List Int} {Q : Value → Shared → Prop} (hh : A.handled = none) (hl : s.heap.IsTuple l its.toArray) (hi : IntsAre its ns) (hne : 0 < ns.length)
    (h : ∀ h' tk M t', (∀ b o, s.heap.get? b = some o → h'.get? b = some o) → M ∈ ns → (∀ a, a ∈ ns → a ≤ M) → Q (.int M t') { s with heap := h', toks := tk }) : wpAny (model prog w) A (call (.builtin "max") [.ref l]) Q E s := by
  obtain ⟨xs, e⟩ := hi.allInts.items
  have hn : numsOf (intItems xs).toList = ns := by rw [← e]; exact hi.numsOf
  rw [nums_intItems] at hn
  subst hn
  rw [e] at hl
  have hsz : 0 < xs.size := by simpa using hne
  refine max_intTuple hh hl hsz fun v h' tk hv hk => ?_
  obtain ⟨t, rfl⟩ := intItems_at hv
  obtain ⟨h1, h2⟩ := argBest_gt (numAt xs) (xs.size - 1)
  refine h h' tk _ t hk ?_ fun a ha => ?_
  · rw [numAt_eq]; exact PySem.getD_mem (by rw [List.length_map, Array.length_toList]; omega)
  · obtain ⟨j, hj, rfl⟩ := mem_getD ha
    rw [List.length_map, Array.length_toList] at hj
    rw [← numAt_eq]; exact h2 j (by omega)
end
def rMaxT (K : PySem.W.Frag) : List V → Hp → VK → Prop := fun vs H Q => ∃ (a : Addr) (ns : List Int), vs = [V.ref a] ∧ SqT K H a (ns.map V.int) ∧ 0 < ns.length ∧ ∀ m, m ∈ ns → (∀ y, y ∈ ns → y ≤ m) → Q (.int m) H
theorem cr_maxT {X : Cx} (hc : X.calm = true) : CallR X (.builtin "max") (rMaxT X.K) := by
  intro pins s σ H vs us Q I r h
  obtain ⟨a, ns, rfl, hs, hne, q⟩ := h
  obtain ⟨its, rv, hl, _⟩ := I.tuple hs
  rw [Vals.ref1 r]
  exact max_rawT (I.ok.hd hc) hl rv.ints hne fun h' tk m t' hk h1 h2 => ⟨.int _, H, I.kept hk, ⟨_, rfl⟩, q m h1 h2⟩
/-! ### a def by its name -/
structure Def (P : Program) (w : World) (K : PySem.W.Frag) (mg : Str → Option Value) (base : Heap) (x : Str) (k : Nat) (ps : List Str) (sp : Sp) : Prop where
  ex : ∃ (f : Addr) (fd : FuncData), FnOk P w K mg base CX0 k f fd ps sp ∧ mg x = some (.ref f) ∧ PySem.W.keepIn K (.ref f) = true ∧ Binds K fd ps []
theorem Def.mono {P : Program} {w : World} {K : PySem.W.Frag} {mg : Str → Option Value} {base : Heap} {x : Str} {j k : Nat} {ps : List Str} {sp : Sp} (D : Def P w K mg base x j ps sp) (h : j ≤ k) : Def P w K mg base x k ps sp := by
  obtain ⟨f, fd, F, r⟩ := D.ex
  exact ⟨f, fd, F.mono h, r⟩
theorem pe_c {X : Cx} {x : Str} {k : Nat} {ps : List Str} {sp : Sp} {e : Expr} {es : List Expr} {t : TA} {p pos : Pos} (D : Def X.prog X.w X.K X.mg X.base x k ps sp) (hr : Room k X.A) (ha : PA X (e :: es) t) (hg : Gl X x := by rfl) (hdb : (x == ("__debug__" : Str)) = false := by decide)
    (he : starEach (e :: es) X.env = (false, eval e X.env) :: starEach es X.env := by rfl) (hpl : (backTo pos (starEach es X.env)).any (·.1) = false := by rfl) : PE X (.Call (.Name x p) (e :: es) [] pos) (tCall sp [] E0 t) := by
  obtain ⟨f, fd, F, m, kp, b⟩ := D.ex
  exact pe_call F hr hg m kp b .nil pass0 ha hdb he hpl
end Mint


namespace Mint
open PySem PySem.Spec PyProof.Rows L2 GxR Gx RZ

/-- a list comprehension over zip of two tuples of one length -/
theorem lc_zipT {K : PySem.W.Frag} {a b : Addr} {xs ys : List V} {g : TG} {tt : TT} {te : TE} {vs : List Nat} {σ : L2.St} {H1 : Hp} {D : Addr} {Qd : Hp → Prop} (hlen : xs.length = ys.length) (Pv : Nat → Hp → Prop) (h0 : Pv 0 (upd H1 D (.lst []))) (hl : ∀ i H, i ≤ xs.length → Pv i H → SqT K H a xs ∧ SqT K H b ys)
    (hs : ∀ i x y T H, xs[i]? = some x → ys[i]? = some y → Pv i H → H T = none → g (.ref T) (wipe σ vs) (upd H T (.tup [x, y])) fun σ2 H2 => wipe σ2 vs = wipe σ vs ∧ tt σ2 H2 fun b H3 =>
      if b = true then te σ2 H3 fun y H4 => ∃ acc, H4 D = some (.lst acc) ∧ acc.length < sizeLine ∧ Pv (i + 1) (upd H4 D (.lst (acc ++ [y]))) else Pv (i + 1) H3) (hd : ∀ H, Pv xs.length H → Qd H) :
    ∃ W : Nat → Nat → Hp → Prop, (∃ m, W 0 m (upd H1 D (.lst []))) ∧ ∀ i m H, W i m H →
      ((ItzT K a b).stop i H ∧ Qd H) ∨ ((ItzT K a b).go i H ∧ ∃ Nx : Hp → Prop, (∀ H', Nx H' → ∃ m', m' < m ∧ W (i + 1) m' H') ∧ ∀ x H', (ItzT K a b).yld i H x H' → g x (wipe σ vs) H' fun σ2 H2 => wipe σ2 vs = wipe σ vs ∧ tt σ2 H2 fun b H3 =>
        if b = true then te σ2 H3 fun y H4 => ∃ acc, H4 D = some (.lst acc) ∧ acc.length < sizeLine ∧ Nx (upd H4 D (.lst (acc ++ [y]))) else Nx H3) := by
  refine ⟨fun i m H => m = xs.length - i ∧ i ≤ xs.length ∧ Pv i H, ⟨xs.length, by simp, Nat.zero_le _, h0⟩, ?_⟩
  rintro i m H ⟨rfl, hi, p⟩
  obtain ⟨qx, qy⟩ := hl i H hi p
  by_cases hlt : i < xs.length
  · have hx : xs[i]? = some xs[i] := List.getElem?_eq_getElem hlt
    have hlt2 : i < ys.length := by omega
    have hy : ys[i]? = some ys[i] := List.getElem?_eq_getElem hlt2
    refine .inr ⟨⟨xs, ys, _, _, qx, qy, hx, hy⟩, Pv (i + 1), fun H' p' => ⟨xs.length - (i + 1), by omega, rfl, hlt, p'⟩, fun v H' y => ?_⟩
    obtain ⟨T, x', y', rfl, hT, rfl, f1, f2⟩ := y
    exact hs i x' y' T H (f1 xs qx) (f2 ys qy) p hT
  · have e : i = xs.length := by omega
    subst e
    exact .inl ⟨⟨xs, ys, qx, qy, Or.inl (Nat.le_refl _)⟩, hd H p⟩

/-! ### len(set(texts)), any number of them -/
def ddS (σ : List Str) (x : Str) : List Str := if σ.any (· == x) then σ else σ ++ [x]
def dedup (xs : List Str) : List Str := xs.foldl ddS []
theorem ddS_any (σ : List Str) (v k : Str) : (ddS σ v).any (· == k) = (σ.any (· == k) || decide (k = v)) := by
  unfold ddS
  by_cases h : σ.any (· == v) = true
  · rw [if_pos h]
    by_cases e : k = v
    · subst e; rw [h]; simp
    · simp [e]
  · rw [if_neg h, List.any_append]
    by_cases e : k = v
    · subst e; simp
    · have hb : (v == k) = false := by simpa [beq_iff_eq] using (fun h' : v = k => e h'.symm)
      simp [hb, e]
theorem ddS_length (σ : List Str) (v : Str) : (ddS σ v).length = if σ.any (· == v) then σ.length else σ.length + 1 := by
  unfold ddS; split <;> simp
theorem dedup_take {xs : List Str} {i : Nat} (h : i < xs.length) : dedup (xs.take (i + 1)) = ddS (dedup (xs.take i)) xs[i] := by
  unfold dedup
  rw [List.take_add_one, List.getElem?_eq_getElem h, Option.toList_some, List.foldl_append]
  rfl
theorem fold_le : ∀ (xs σ : List Str), (xs.foldl ddS σ).length ≤ σ.length + xs.length
  | [], σ => Nat.le_refl _
  | x :: xs, σ => by
    have h1 := fold_le xs (ddS σ x)
    have h2 := ddS_length σ x
    rw [List.foldl_cons, List.length_cons]
    split at h2 <;> omega
theorem dedup_le (xs : List Str) : (dedup xs).length ≤ xs.length := by
  have := fold_le xs []
  simpa [dedup] using this

/-- what set(xs) comes to, xs a list: its filling loop, from the empty set at S over the iterator behind it -/
def SetLoop (prog : Program) (w : World) (A : Around) (l S : Addr) (items : Array Value) (good : Shared → Prop) (E : Value → Shared → Prop) : Prop := ∀ s1 : Shared,
  (∃ led : Bool, s1.heap.get? S = some { cls := .type "set", dict := none, data := .set #[] 0 (.fresh 0 0 led) }) → s1.heap.IsListIter (S + 1) l 0 → s1.heap.IsList l items →
  codeAny (model prog w) A (.builtin "set.update.loop" ⟨[.ref S, .ref (S + 1)], []⟩) (wants (fun r s2 => r = .none ∧ s2.gens = s1.gens ∧ s2.drawn = s1.drawn ∧ s2.os = s1.os ∧ good s2 ∧ ∀ b o, b < S → s1.heap.get? b = some o → s2.heap.get? b = some o) E) s1
section
variable {prog : Program} {w : World} {A : Around} {E : Value → Shared → Prop} {s : Shared}
set_option maxHeartbeats 8000000 in
theorem set_of_list {l : Addr} {items : Array Value} {good : Shared → Prop} {Q : Value → Shared → Prop} (hl : s.heap.IsList l items) (loop : SetLoop prog w A.in1.in1 l s.heap.objs.size items good E)
    (done : ∀ (h' : Heap) (tk : Nat), good { s with heap := h', toks := tk } → (∀ b o, s.heap.get? b = some o → h'.get? b = some o) → Q (.ref s.heap.objs.size) { s with heap := h', toks := tk }) :
    wpAny (model prog w) A (call (.type "set") [.ref l]) Q E s := by
  have hlS : l < s.heap.objs.size := let ⟨_, e, _⟩ := hl; Heap.lt_size e
  obtain ⟨_, _, hmro⟩ := PySem.F.called_set.mro
  have hm := PySem.F.called_set.made; have hs := PySem.F.called_set.sub; have hn := PySem.F.called_set.notType; have hcr := PySem.F.called_set.canCreate; have hct := PySem.F.typeCall_set_1 (.ref l)
  refine wpAny_call (codeAny_of_tree (show wpAny _ _ (callAny (.type "set") _) _ _ _ from wpAny_pure ⟨Code.quiet_builtin _ (by decide +kernel), codeAny_builtin PySem.F.entry_type_call ?_⟩))
  rw [Around.under_plain (weight_type_call_type "set" [.ref l] []) rfl]
  repeat (any_goals (first | assumption | wp_step))
  refine codeAny_mono (code_set_new_1 (.ref l) (E := E) (Q₁ := fun u s₁ => u = .ref s.heap.objs.size ∧ ∃ led : Bool, s₁ = { s with heap := s.heap.push { cls := .type "set", dict := none, data := .set #[] 0 (.fresh 0 0 led) } }) fun led => ⟨rfl, led, rfl⟩) fun r s₁ hr => ?_
  match r, hr with
  | .error e, hr => exact hr
  | .ok .next, hr => exact hr.elim
  | .ok .brk, hr => exact hr.elim
  | .ok .cont, hr => exact hr.elim
  | .ok (.ret u), ⟨eu, led, es⟩ =>
  subst eu es
  have hT : Shared.TypeIs { s with heap := s.heap.push { cls := .type "set", dict := none, data := .set #[] 0 (.fresh 0 0 led) } } (.ref s.heap.objs.size) "set" := ⟨_, Heap.get?_push_size _ rfl, rfl⟩
  have hli := PySem.F.called_set.init.lookup; have hbi := PySem.F.called_set.init.bind (.ref s.heap.objs.size)
  repeat (any_goals (first | assumption | wp_step))
  refine codeAny_mono (codeAny_call_builtin (R := wants (fun r s₂ => r = .none ∧ ∃ h' tk, s₂ = { s with heap := h', toks := tk } ∧ good s₂ ∧ ∀ b o, s.heap.get? b = some o → h'.get? b = some o) E) PySem.F.called_set.init.plain PySem.F.entry_set_init (check_set_init_1 hT ?_)) fun r s₂ hr => ?_
  · obtain ⟨⟨ocls, odict, odata, oslots⟩, hol, hcl, nl, hdl⟩ := hl
    simp only at hcl hdl
    subst hcl hdl
    have e1 := PySem.F.sub_list_set; have e2 := PySem.F.sub_list_frozenset; have e3 : (Value.type "list" == Value.type "dict") = false := by decide
    have ho1 : (s.heap.push { cls := .type "set", dict := none, data := .set #[] 0 (.fresh 0 0 led) }).get? l = some { cls := .type "list", dict := odict, data := .seq items nl, slots := oslots } := Heap.get?_push_of_some _ hol
    have hL1 : (s.heap.push { cls := .type "set", dict := none, data := .set #[] 0 (.fresh 0 0 led) }).IsList l items := ⟨_, ho1, rfl, nl, rfl⟩
    unfold Builtin.«set.__init__» noKeywords Builtin.Frozenset.updateFrom
    generalize hPI : pyIter = PI
    wp_walk
    subst hPI
    refine wpAny_pyIter_list hL1 (wpAny_bind (wpAny_runValue ?_))
    have hz : (s.heap.push { cls := .type "set", dict := none, data := .set #[] 0 (.fresh 0 0 led) }).objs.size = s.heap.objs.size + 1 := Heap.size_push ..
    have key := loop { s with heap := (s.heap.push { cls := .type "set", dict := none, data := .set #[] 0 (.fresh 0 0 led) }).push { cls := .type "list_iterator", data := .fields #[.ref l, .int 0 0] } }
      ⟨led, Heap.get?_push_of_some _ (Heap.get?_push_size _ rfl)⟩ ⟨_, by rw [← hz]; exact Heap.get?_push_size _ rfl, rfl, rfl⟩ (hL1.push _)
    rw [hz]
    refine codeAny_mono key fun r s2 hr => ?_
    match r, hr with
    | .error e, hr => exact hr
    | .ok .next, hr => exact hr.elim
    | .ok .brk, hr => exact hr.elim
    | .ok .cont, hr => exact hr.elim
    | .ok (.ret u), ⟨eu, eg, ed, eo, gd, kp⟩ =>
    obtain ⟨h2, g2, d2, t2, o2⟩ := s2
    simp only at eg ed eo
    subst eg ed eo
    refine wpAny_pure (wpAny_pure ⟨rfl, h2, t2, rfl, gd, fun b o e => kp b o (Heap.lt_size e) ?_⟩)
    exact Heap.get?_push_of_some _ (Heap.get?_push_of_some _ e)
  · match r, hr with
    | .error e, hr => exact hr
    | .ok .next, hr => exact hr.elim
    | .ok .brk, hr => exact hr.elim
    | .ok .cont, hr => exact hr.elim
    | .ok (.ret u), ⟨eu, h2, t2, es, gd, kp⟩ =>
    subst eu es
    repeat (any_goals (first | assumption | wp_step))
    exact done h2 t2 gd kp
/-- the filling loop, over texts -/
theorem set_loop_strs {l S : Addr} {items : Array Value} {xs : List Str} (hh : A.handled = none) (hi : PyProof.Rows.StrsAre items.toList xs) (hlS : l < S) (hb : xs.length + 1 < scanBound) :
    SetLoop prog w A l S items (fun s2 => s2.heap.SetOf (PySem.strKind prog w) S (fun k => (dedup xs).any (· == k)) (dedup xs).length) E := by
  intro s1 ⟨led, hS⟩ hit hl
  have hn : xs.length = items.size := by rw [← StrsAre.len_eq hi, Array.length_toList]
  have W := (Walks.list (prog := prog) (w := w) (A := A.in1) hh (S + 1) l (show l ≠ S + 1 from Nat.ne_of_lt (Nat.lt_succ_of_lt hlS)) items)
  have hSw : S ∉ [S + 1] := by simp
  -- one turn after another
  have go : ∀ (k i : Nat) (s : Shared), items.size - i = k → i ≤ items.size → (s.heap.IsListIter (S + 1) l i ∧ s.heap.IsList l items) → s.heap.SetOf (PySem.strKind prog w) S (fun k => (dedup (xs.take i)).any (· == k)) (dedup (xs.take i)).length →
      s.gens = s1.gens → s.drawn = s1.drawn → s.os = s1.os → (∀ b o, b < S → s1.heap.get? b = some o → s.heap.get? b = some o) →
      codeAny (model prog w) A (.builtin "set.update.loop" ⟨[.ref S, .ref (S + 1)], []⟩) (wants (fun r s2 => r = .none ∧ s2.gens = s1.gens ∧ s2.drawn = s1.drawn ∧ s2.os = s1.os ∧ s2.heap.SetOf (PySem.strKind prog w) S (fun k => (dedup xs).any (· == k)) (dedup xs).length ∧ ∀ b o, b < S → s1.heap.get? b = some o → s2.heap.get? b = some o) E) s := by
    intro k
    induction k with
    | zero =>
      intro i s hk hle st hset eg ed eo kp
      have ei : i = items.size := by omega
      subst ei
      refine codeAny_builtin PyProof.Rows.F.entry_set_update_loop ?_; rw [Around.under_plainId PyProof.Rows.F.plain_set_update_loop _]
      show wpAny _ A.in1 (pyNext (.ref (S + 1)) >>= _) _ _ s
      refine wpAny_bind (W.done s _ _ st fun h' tk hk => ?_)
      refine wpAny_pure (show _ ∧ _ from ⟨rfl, eg, ed, eo, ?_, fun b o hb e => hk b o (fun z => absurd (List.mem_singleton.mp z) (Nat.ne_of_lt (Nat.lt_succ_of_lt hb))) (kp b o hb e)⟩)
      rw [← hn, List.take_length] at hset
      obtain ⟨o, es, ep, t, ho, r⟩ := hset
      exact ⟨o, es, ep, t, hk S o hSw ho, r⟩
    | succ k ih =>
      intro i s hk hle st hset eg ed eo kp
      have hlt : i < items.size := by omega
      have hltx : i < xs.length := by omega
      refine codeAny_builtin PyProof.Rows.F.entry_set_update_loop ?_; rw [Around.under_plainId PyProof.Rows.F.plain_set_update_loop _]
      show wpAny _ A.in1 (pyNext (.ref (S + 1)) >>= _) _ _ s
      refine wpAny_bind (W.item i s _ _ hlt st fun v h' tk hv st' hk => ?_)
      obtain ⟨t, ev⟩ := SS.strs_at hi i v (by rw [Array.getElem?_toList]; exact hv)
      have eg' : xs.getD i Str.empty = xs[i] := by simp [List.getD_eq_getElem?_getD, hltx]
      rw [eg'] at ev
      subst ev
      have hset' : h'.SetOf (PySem.strKind prog w) S (fun k => (dedup (xs.take i)).any (· == k)) (dedup (xs.take i)).length := by
        obtain ⟨o, es, ep, t, ho, r⟩ := hset
        exact ⟨o, es, ep, t, hk S o hSw ho, r⟩
      show wpAny _ A.in1 (holding [Value.str xs[i] t] (setAdd S (.str xs[i] t)) >>= _) _ _ _
      refine wpAny_bind (wpAny_holding ?_); unfold setAdd; refine wpAny_holding (wpAny_bind ((PySem.strKind prog w).pyHash (k := xs[i]) (strKind_is _ _ _ _) ?_))
      have hroom : (dedup (xs.take i)).length + 1 < scanBound := by
        have q := dedup_le (xs.take i)
        rw [List.length_take] at q
        omega
      refine wpAny_setAddHashed_of (knd := PySem.strKind prog w) (s := { s with heap := h', toks := tk + 1 }) (strKind_is _ _ _ _) rfl hset' hroom fun h2 sb hset2 => ?_
      have neS : ∀ b o, b ≠ S → h'.get? b = some o → h2.get? b = some o := fun b o hb e => (sb.2 b hb).trans e
      refine wpAny_pure ⟨plainId_quiet PyProof.Rows.F.plain_set_update_loop _, ih (i + 1) _ (by omega) hlt (W.frame _ h' h2 st' fun b hbm o e => neS b o ?_ e) (SetOf_congr hset2 (fun z => ?_) ?_) eg ed eo fun b o hb e => neS b o (Nat.ne_of_lt hb) (hk b o (fun z => absurd (List.mem_singleton.mp z) (Nat.ne_of_lt (Nat.lt_succ_of_lt hb))) (kp b o hb e))⟩
      · rcases List.mem_cons.mp hbm with z | z
        · rw [z]; exact Nat.succ_ne_self S
        · rw [List.mem_singleton.mp z]; exact Nat.ne_of_lt hlS
      · rw [dedup_take hltx, ddS_any]
      · rw [dedup_take hltx, ddS_length]
  refine go items.size 0 s1 (Nat.sub_zero _) (Nat.zero_le _) ⟨hit, hl⟩ ?_ rfl rfl rfl fun _ _ _ e => e
  exact SetOf_congr ((PyProof.Rows.setObjOf_fresh (knd := PySem.strKind prog w) led).setOf hS (by unfold scanBound; omega)) (fun _ => rfl) rfl
end
def tLenSetN (K : PySem.W.Frag) (ta : TE) : TE := fun σ H Q => ta σ H fun x H1 => ∃ l, ∃ xs : List Str, x = .ref l ∧ SqL K H1 l (xs.map V.str) ∧ xs.length ≤ 1000 ∧ Q (.int (dedup xs).length) H1
theorem pe_lenSetN {X : Cx} {a : Expr} {ta : TE} {p p2 q pos : Pos} (hc : X.calm = true) (hg : Gl X "len") (hm : X.mg "len" = none) (hg2 : Gl X "set") (hm2 : X.mg "set" = none) (ha : PE X a ta)
    (na : starEach [a] X.env = (false, eval a X.env) :: starEach [] X.env := by rfl) : PE X (.Call (.Name "len" p) [.Call (.Name "set" p2) [a] [] q] [] pos) (tLenSetN X.K ta) := by
  refine ⟨fun pins s σ H Q I h => ?_⟩
  refine Call_ (ld_blt I hg hm PySem.boot_len ?_)
  refine PyProof.Rows.callWith_builtin1 (PyProof.Rows.args_cons ?_ rfl) rfl rfl
  refine Call_ (ld_blt I hg2 hm2 boot_set ?_)
  refine PyProof.Rows.callWith_type1 (PyProof.Rows.args_cons (thn (ha.run pins s σ H _ I h) fun v s1 ⟨x, H1, I1, r1, q1⟩ => PyProof.Rows.args_nil ?_) na) na rfl
  obtain ⟨l, xs, rfl, hq, h1, q1⟩ := q1
  cases r1
  obtain ⟨its, r, pl, hz⟩ := I1.list hq
  obtain ⟨ol, hol, _⟩ := id pl.isList
  refine set_of_list pl.isList (set_loop_strs (I1.ok.hd hc) (by simpa using strsAre_of r) (Heap.lt_size hol) (by unfold scanBound; omega)) fun h' tk hS hk => PyProof.Rows.args_nil ?_
  obtain ⟨o, es, ep, t, ho, hex, hd, _, _, _, hf, hn⟩ := hS
  have I2 : Inv X pins σ H1 { s1 with heap := h', toks := tk } := I1.kept hk
  have hle := dedup_le xs
  refine call_len_set ho hex hd hf (by rw [hn] <;> omega) ⟨.int (dedup xs).length, H1, I2.tok _, ⟨_, by rw [hn]⟩, q1⟩
end Mint


namespace Mint
open PySem PySem.Spec PyProof.Rows L2 GxR Gx RZ

/-! ### enumerate(tuple), one argument -/
theorem enum_new1 {v : Value} {o : Obj} {H : Heap → Prop} (B : Begins v o H) :
    Meets (Builtin.«enumerate.__new__» ⟨[.type "enumerate", v], []⟩) (fun _ R s => H s.heap ∧ R (.ok (.ret (.ref (s.heap.push o).objs.size))) { s with heap := (s.heap.push o).push { cls := .type "enumerate", data := .fields #[.none, .bool false, .ref s.heap.objs.size, rawInt 0, .none, .none] } }) :=
  .of_wp fun prog w A R s ⟨h1, h2⟩ => by
    have hs := sub_enumerate
    obtain ⟨hp, g, d, tk, os⟩ := s
    have it : ∀ {A' : Around} {E : Value → Shared → Prop} {Q : Value → Shared → Prop}, Q (.ref hp.objs.size) ⟨hp.push o, g, d, tk, os⟩ → wpAny (model prog w) A' (pyIter v) Q E ⟨hp, g, d, tk, os⟩ := fun q => B.iter prog w _ _ _ _ h1 q
    wp_walk using it
    refine wpAny_stack_any fun _ => wpAny_pure ?_
    split
    · rename_i c _ _ _ _ _
      cases (c == Value.type "enumerate") <;> (wp_walk using it; exact ⟨_, rfl, h2⟩)
    · wp_walk using it; exact ⟨_, rfl, h2⟩
section
variable {prog : Program} {w : World} {A : Around} {E : Value → Shared → Prop} {s : Shared}
theorem call_enum_tuple {l : Addr} {items : Array Value} {Q : Value → Shared → Prop} (hl : s.heap.IsTuple l items)
    (h : ∀ h', IsEnum h' (s.heap.objs.size + 1) s.heap.objs.size 0 .none → h'.IsTupleIter s.heap.objs.size l 0 → (∀ b o, s.heap.get? b = some o → h'.get? b = some o) → Q (.ref (s.heap.objs.size + 1)) { s with heap := h' }) :
    wpAny (model prog w) A (call (.type "enumerate") [.ref l]) Q E s := by
  refine callType_new F.called_enumerate (by decide) (F.typeCall_enumerate_1 _) (F.newCall_enumerate_1 _) (fun obj => F.args_object_init_2 obj _) F.entry_enumerate_new (enum_new1 (begins_tuple l items)) ⟨hl, ?_⟩
  have hz : ∀ o : Obj, (s.heap.push o).objs.size = s.heap.objs.size + 1 := fun o => Heap.size_push ..
  show _ ∧ _
  rw [hz]
  have he := Heap.get?_push_size (s.heap.push { cls := .type "tuple_iterator", data := .fields #[.ref l, .int 0 0] }) (o := { cls := .type "enumerate", data := .fields #[.none, .bool false, .ref s.heap.objs.size, rawInt 0, .none, .none] }) rfl
  rw [hz] at he
  exact ⟨⟨_, he, rfl⟩, h _ he ⟨_, Heap.get?_push_of_some _ (Heap.get?_push_size _ rfl), rfl, rfl⟩ fun b o x => Heap.get?_push_of_some _ (Heap.get?_push_of_some _ x)⟩
end
/-- the tuple at a, each item in a new pair with its number -/
def IteT (K : PySem.W.Frag) (a : Addr) : It :=
  ⟨fun i H => ∃ (xs : List V) (x : V), SqT K H a xs ∧ xs[i]? = some x, fun i H v H' => ∃ T x, v = .ref T ∧ H T = none ∧ H' = upd H T (.tup [.int (i : Nat), x]) ∧ ∀ xs, SqT K H a xs → xs[i]? = some x, fun i H => ∃ xs : List V, SqT K H a xs ∧ xs.length = i⟩
theorem turn_enumT {P : Program} {w : World} {K : PySem.W.Frag} {elts : List Expr} {kk : Nat} {tpos : Pos} (a e it : Addr) :
    Turn P w K (.Tuple elts kk tpos) (IteT K a) [e, it] e (fun i h => (∃ old, IsEnum h e it ((i : Nat) : Int) old) ∧ h.IsTupleIter it a i ∧ e ≠ it) where
  mem := List.mem_cons_self
  obj := fun i h st b hb => by
    obtain ⟨⟨old, he⟩, ⟨o, ho, _, hd⟩, _⟩ := st
    rcases List.mem_cons.mp hb with z | z
    · subst z; exact ⟨_, he, fun v q => by cases q⟩
    · exact ⟨o, by rw [List.mem_singleton.mp z]; exact ho, fun v q => by rw [hd] at q; cases q⟩
  keep := fun i h h' ⟨⟨old, he⟩, hi, hne⟩ k => ⟨⟨old, k e List.mem_cons_self _ he⟩, hi.at fun o q => k it (List.mem_cons_of_mem _ List.mem_cons_self) o q, hne⟩
  item := by
    intro X hP hw hK hc i pins s σ H E I hf ⟨⟨old, he⟩, hit, hne⟩ ⟨xs, x, hq, hx⟩
    subst hP hw hK
    obtain ⟨its, rv, p, hz⟩ := I.tuple hq
    obtain ⟨u, hu, ru⟩ := rv.get hx
    obtain ⟨oa, ha1, ha2, _⟩ := id p
    obtain ⟨oi, hi1, hi2, _⟩ := id hit
    have nae : e ≠ a := fun z => by
      rw [← z, show s.heap.get? e = _ from he] at ha1
      cases ha1
      exact absurd (Value.type.inj ha2) (by decide)
    have nai : a ≠ it := fun z => by
      rw [z, hi1] at ha1
      cases ha1
      rw [hi2] at ha2
      exact absurd (Value.type.inj ha2) (by decide)
    have W := WalksT.enumFrom (prog := X.prog) (w := X.w) (A := X.A) 0 (Draws.tuple (A := X.A.in1) (I.ok.hd hc) it a nai its.toArray) e hne (by simp [hne, nae]) (by simp)
    have hlt : i < its.toArray.size := by
      have := (List.getElem?_eq_some_iff.mp hu).1
      simpa using this
    have z0 : ∀ j : Nat, (0 : Int) + (j : Int) = (j : Int) := fun j => Int.zero_add _
    refine W.item i s _ _ hlt ⟨⟨old, by rw [z0]; exact he⟩, hit, p⟩ fun T vals h' tk ⟨t, y, hy, ev⟩ hT htup mid hk => ⟨_, rfl, ?_⟩
    refine W.go elts kk tpos i T { s with heap := h', toks := tk } _ _ mid fun h2 st2 hk2 => ?_
    have ey : y = u := by
      have hy' : its.toArray[i]? = some y := hy
      rw [List.getElem?_toArray, hu] at hy'
      exact (Option.some.inj hy').symm
    subst ey ev
    have apart := W.apart i T h' mid
    have kept : ∀ b ob, b ∉ [e, it] → s.heap.get? b = some ob → h2.get? b = some ob := fun b ob hb q => hk2 b ob hb (hk b ob hb q)
    obtain ⟨ot, hot, hct, nt, hdt⟩ := htup
    have hT2 : h2.get? T = some ot := hk2 T ot apart hot
    have new : ObjOk X.prog X.w (upd H T (.tup [.int (i : Nat), x])) h2 T (.tup [.int (i : Nat), x]) :=
      ⟨by show 2 ≤ sizeLine; decide, [.int (0 + (i : Int)) t, y], .cons ⟨t, by rw [z0]⟩ (.cons ru .nil), ⟨ot, hT2, hct, nt, hdt⟩⟩
    have J := I.turnedNew (t' := tk) (ch := [e, it]) kept hf hT new
    have low : ∀ b ∈ [e, it], b < s.heap.objs.size := fun b hb => by
      rcases List.mem_cons.mp hb with z | z
      · rw [z]; exact Heap.lt_size he
      · rw [List.mem_singleton.mp z]; exact Heap.lt_size hi1
    refine ⟨.ref T, _, J, rfl, ⟨T, x, rfl, I.hok.fresh hT, rfl, fun ys hy => by rw [I.tuple_inj hy hq]; exact hx⟩, ?_, fun b hb => ?_⟩
    · obtain ⟨⟨old2, he2⟩, hit2, _⟩ := st2
      exact ⟨⟨old2, by rw [z0] at he2; exact he2⟩, hit2, hne⟩
    · rw [upd_ne (Nat.ne_of_lt (Nat.lt_of_lt_of_le (low b hb) hT))]
      exact (hf b hb).1
  done := by
    intro X hP hw hK hc i pins s σ H E I hf ⟨⟨old, he⟩, hit, hne⟩ ⟨xs, hq, hx⟩
    subst hP hw hK
    obtain ⟨its, rv, p, hz⟩ := I.tuple hq
    obtain ⟨oa, ha1, ha2, _⟩ := id p
    obtain ⟨oi, hi1, hi2, _⟩ := id hit
    have nai : a ≠ it := fun z => by
      rw [z, hi1] at ha1
      cases ha1
      rw [hi2] at ha2
      exact absurd (Value.type.inj ha2) (by decide)
    obtain ⟨f0, f1, f2, f3, f4, f5⟩ := hf it (List.mem_cons_of_mem _ List.mem_cons_self)
    have hn : its.toArray.size = i := by rw [← hx, List.size_toArray, ← rv.length]
    refine wpAny_pyNext_enum_endD (Draws.tuple (A := X.A.in1) (I.ok.hd hc) it a nai its.toArray) he ⟨by rw [hn]; exact hit, p⟩ fun h' eb => ⟨rfl, I.turned (t' := s.toks) (fun b o hb q => eb b o hb q) f0 f1 f3 f4 f5⟩
  self := fun A i s Q E ⟨⟨_, he⟩, _⟩ h => wpAny_pyIter_enum he h
def iEnumT (K : PySem.W.Frag) (ta : TA) : TI := fun σ H R => ta σ H fun vs H1 => ∃ a xs, vs = [.ref a] ∧ SqT K H1 a xs ∧ R (IteT K a) H1
theorem pi_enumT {X : Cx} {e : Expr} {ta : TA} {p pos tpos : Pos} {elts : List Expr} {kk : Nat} (hg : Gl X "enumerate") (hm : X.mg "enumerate" = none) (ha : PA X [e] ta) (hs : starEach [e] X.env = [(false, eval e X.env)] := by rfl) :
    PI X (.Tuple elts kk tpos) (.Call (.Name "enumerate" p) [e] [] pos) (iEnumT X.K ta) := by
  refine ⟨fun pins s σ H R I h => Call_ (ld_blt I hg hm boot_enumerate (PyProof.Rows.callWith_type1 (thn (ha.run pos pins s σ H _ I h) fun us s1 ⟨vs, H1, I1, r1, a, xs, ex, hq, q⟩ => ?_) hs rfl))⟩
  subst ex
  obtain ⟨u, rfl, ru⟩ := vals1 r1
  cases ru
  obtain ⟨its, rv, p', hz⟩ := I1.tuple hq
  refine call_enum_tuple p' fun h' he hit hk => wpAny_pyIter_enum he ?_
  refine ⟨s1.heap.objs.size + 1, [s1.heap.objs.size + 1, s1.heap.objs.size], _, _, H1, rfl, I1.kept (t' := s1.toks) hk, turn_enumT a (s1.heap.objs.size + 1) s1.heap.objs.size, ⟨⟨.none, he⟩, hit, Nat.succ_ne_self _⟩, fun b hb => ?_, q⟩
  have hle : s1.heap.objs.size ≤ b := by
    rcases List.mem_cons.mp hb with z | z
    · rw [z]; exact Nat.le_add_right _ _
    · rw [List.mem_singleton.mp z]; exact Nat.le_refl _
  exact I1.fpOk hle (I1.hok.fresh hle)
/-- a loop over enumerate(tuple) -/
theorem for_enumT {K : PySem.W.Frag} {a : Addr} {xs : List V} {g : TG} {tb : TS} {D : Ends} {σ : L2.St} {H : Hp} (Pv : Nat → L2.St → Hp → Prop) (h0 : Pv 0 σ H) (hl : ∀ i σ H, i ≤ xs.length → Pv i σ H → SqT K H a xs)
    (hs : ∀ i x T σ H, xs[i]? = some x → Pv i σ H → H T = none → g (.ref T) σ (upd H T (.tup [.int (i : Nat), x])) fun σ2 H2 => tb { D with nx := Pv (i + 1), ct := Pv (i + 1), bk := D.nx } σ2 H2) (hd : ∀ σ H, Pv xs.length σ H → D.nx σ H) :
    ∃ W : Nat → Nat → L2.St → Hp → Prop, (∃ m, W 0 m σ H) ∧ ∀ i m σ H, W i m σ H →
      ((IteT K a).stop i H ∧ D.nx σ H) ∨ ((IteT K a).go i H ∧ ∃ N : L2.St → Hp → Prop, (∀ σ' H', N σ' H' → ∃ m', m' < m ∧ W (i + 1) m' σ' H') ∧ ∀ x H', (IteT K a).yld i H x H' → g x σ H' fun σ2 H2 => tb { D with nx := N, ct := N, bk := D.nx } σ2 H2) := by
  refine ⟨fun i m σ H => m = xs.length - i ∧ i ≤ xs.length ∧ Pv i σ H, ⟨xs.length, rfl, Nat.zero_le _, h0⟩, ?_⟩
  rintro i m σ H ⟨rfl, hi, p⟩
  have q := hl i σ H hi p
  rcases Nat.lt_or_ge i xs.length with hlt | hge
  · refine .inr ⟨⟨xs, xs[i], q, List.getElem?_eq_getElem hlt⟩, Pv (i + 1), fun σ' H' p' => ⟨xs.length - (i + 1), by omega, rfl, hlt, p'⟩, fun v H' ⟨T, x, ev, hT, eH, f⟩ => ?_⟩
    subst ev eH
    exact hs i x T σ H (f xs q) p hT
  · obtain rfl : i = xs.length := by omega
    exact .inl ⟨⟨xs, q, rfl⟩, hd σ H p⟩
end Mint


namespace Mint
open PySem PySem.Spec PyProof.Rows L2 GxR Gx RZ

/-! ### zip of three tuples -/
def Itz3 (K : PySem.W.Frag) (a b c : Addr) : It :=
  ⟨fun i H => ∃ (xs ys zs : List V) (x y z : V), SqT K H a xs ∧ SqT K H b ys ∧ SqT K H c zs ∧ xs[i]? = some x ∧ ys[i]? = some y ∧ zs[i]? = some z,
    fun i H v H' => ∃ T x y z, v = .ref T ∧ H T = none ∧ H' = upd H T (.tup [x, y, z]) ∧ (∀ xs, SqT K H a xs → xs[i]? = some x) ∧ (∀ ys, SqT K H b ys → ys[i]? = some y) ∧ ∀ zs, SqT K H c zs → zs[i]? = some z,
    fun i H => ∃ xs ys zs : List V, SqT K H a xs ∧ SqT K H b ys ∧ SqT K H c zs ∧ xs.length = i ∧ ys.length = i ∧ zs.length = i⟩
theorem tup_ne_iter {h : Heap} {a it l : Addr} {i : Nat} {items : Array Value} (p : h.IsTuple a items) (q : h.IsTupleIter it l i) : a ≠ it := fun z => by
  obtain ⟨oa, ha1, ha2, _⟩ := p
  obtain ⟨oi, hi1, hi2, _⟩ := q
  rw [z, hi1] at ha1
  cases ha1
  rw [hi2] at ha2
  exact absurd (Value.type.inj ha2) (by decide)
theorem turn_zip3 {P : Program} {w : World} {K : PySem.W.Frag} {elts : List Expr} {kk : Nat} {tpos : Pos} {z TI TO i1 i2 i3 a b c : Addr} (S : ZipSep3 z TI TO i1 i2 i3 [i1, a] [i2, b] [i3, c]) :
    Turn P w K (.Tuple elts kk tpos) (Itz3 K a b c) [z, TI, TO, i1, i2, i3] z (fun i h => IsZip h z TI TO .none ∧ IsTupOf3 h TI (.ref i1) (.ref i2) (.ref i3) ∧ (∃ x y u, IsTupOf3 h TO x y u) ∧ h.IsTupleIter i1 a i ∧ h.IsTupleIter i2 b i ∧ h.IsTupleIter i3 c i) where
  mem := by simp
  obj := fun i h st d hd => by
    obtain ⟨hz, hTI, ⟨x, y, u, hTO⟩, ⟨o1, e1, _, d1⟩, ⟨o2, e2, _, d2⟩, ⟨o3, e3, _, d3⟩⟩ := st
    have e' : d = z ∨ d = TI ∨ d = TO ∨ d = i1 ∨ d = i2 ∨ d = i3 := by simpa using hd
    rcases e' with q | q | q | q | q | q
    · rw [q]; exact ⟨_, hz, fun v q => nomatch q⟩
    · rw [q]; exact ⟨_, hTI, fun v q => nomatch q⟩
    · rw [q]; exact ⟨_, hTO, fun v q => nomatch q⟩
    · rw [q]; exact ⟨o1, e1, fun v q => by rw [d1] at q; cases q⟩
    · rw [q]; exact ⟨o2, e2, fun v q => by rw [d2] at q; cases q⟩
    · rw [q]; exact ⟨o3, e3, fun v q => by rw [d3] at q; cases q⟩
  keep := fun i h h' st k => by
    obtain ⟨hz, hTI, ⟨x, y, u, hTO⟩, h1, h2, h3⟩ := st
    exact ⟨k z (by simp) _ hz, k TI (by simp) _ hTI, ⟨x, y, u, k TO (by simp) _ hTO⟩, h1.at fun o q => k i1 (by simp) o q, h2.at fun o q => k i2 (by simp) o q, h3.at fun o q => k i3 (by simp) o q⟩
  item := by
    intro X hP hw hK hc i pins s σ H E I hf st hg
    subst hP hw hK
    obtain ⟨hz, hTI, ⟨x0, y0, u0, hTO⟩, h1, h2, h3⟩ := st
    obtain ⟨xs, ys, zs, x, y, u, hqx, hqy, hqz, hx, hy, hu⟩ := hg
    obtain ⟨its, rv, p1, _⟩ := I.tuple hqx
    obtain ⟨its2, rv2, p2, _⟩ := I.tuple hqy
    obtain ⟨its3, rv3, p3, _⟩ := I.tuple hqz
    obtain ⟨v1, hv1, ru1⟩ := rv.get hx
    obtain ⟨v2, hv2, ru2⟩ := rv2.get hy
    obtain ⟨v3, hv3, ru3⟩ := rv3.get hu
    have hh : X.A.in1.handled = none := I.ok.hd hc
    have W := WalksT.zipD3 (prog := X.prog) (w := X.w) (A := X.A) S (Draws.tuple hh i1 a (tup_ne_iter p1 h1) its.toArray) (Draws.tuple hh i2 b (tup_ne_iter p2 h2) its2.toArray) (Draws.tuple hh i3 c (tup_ne_iter p3 h3) its3.toArray)
    have l1 : i < its.toArray.size := by have := (List.getElem?_eq_some_iff.mp hv1).1; simpa using this
    have l2 : i < its2.toArray.size := by have := (List.getElem?_eq_some_iff.mp hv2).1; simpa using this
    have l3 : i < its3.toArray.size := by have := (List.getElem?_eq_some_iff.mp hv3).1; simpa using this
    refine W.item i s _ _ (by omega) ⟨hz, hTI, ⟨x0, y0, u0, hTO⟩, ⟨h1, p1⟩, ⟨h2, p2⟩, ⟨h3, p3⟩⟩ fun T vals h' tk ⟨w1, w2, w3, g1, g2, g3, ev⟩ hT htup mid hk => ⟨_, rfl, ?_⟩
    refine W.go elts kk tpos i T { s with heap := h', toks := tk } _ _ mid fun h'' st2 hk2 => ?_
    have ex : ∀ {l : List Value} {m v : Value}, l.toArray[i]? = some m → l[i]? = some v → m = v := fun {l m v} e1 e2 => by
      rw [List.getElem?_toArray, e2] at e1
      exact (Option.some.inj e1).symm
    have ew1 := ex g1 hv1
    have ew2 := ex g2 hv2
    have ew3 := ex g3 hv3
    subst ew1 ew2 ew3 ev
    have apart := W.apart i T h' mid
    have sub : ∀ b, b ∉ [z, TI, TO, i1, i2, i3] → b ∉ [z, TO, i1, i2, i3] := fun b hb hm => by
      simp only [List.mem_cons, List.not_mem_nil, or_false] at hb hm
      exact hb (by rcases hm with q | q | q | q | q <;> simp [q])
    have kept : ∀ d ob, d ∉ [z, TI, TO, i1, i2, i3] → s.heap.get? d = some ob → h''.get? d = some ob := fun d ob hb q => hk2 d ob (sub d hb) (hk d ob (sub d hb) q)
    obtain ⟨ot, hot, hct, nt, hdt⟩ := htup
    have hT2 : h''.get? T = some ot := hk2 T ot apart hot
    have new : ObjOk X.prog X.w (upd H T (.tup [x, y, u])) h'' T (.tup [x, y, u]) :=
      ⟨by show 3 ≤ sizeLine; decide, [w1, w2, w3], .cons ru1 (.cons ru2 (.cons ru3 .nil)), ⟨ot, hT2, hct, nt, hdt⟩⟩
    have J := I.turnedNew (t' := tk) (ch := [z, TI, TO, i1, i2, i3]) kept hf hT new
    have low : ∀ d ∈ [z, TI, TO, i1, i2, i3], d < s.heap.objs.size := fun d hd => by
      have e' : d = z ∨ d = TI ∨ d = TO ∨ d = i1 ∨ d = i2 ∨ d = i3 := by simpa using hd
      rcases e' with q | q | q | q | q | q
      · rw [q]; exact Heap.lt_size hz
      · rw [q]; exact Heap.lt_size hTI
      · rw [q]; exact Heap.lt_size hTO
      · rw [q]; obtain ⟨_, e1, _⟩ := h1; exact Heap.lt_size e1
      · rw [q]; obtain ⟨_, e1, _⟩ := h2; exact Heap.lt_size e1
      · rw [q]; obtain ⟨_, e1, _⟩ := h3; exact Heap.lt_size e1
    obtain ⟨hz2, hTI2, hTO2, ⟨t1, _⟩, ⟨t2, _⟩, ⟨t3, _⟩⟩ := st2
    refine ⟨.ref T, _, J, rfl, ⟨T, x, y, u, rfl, I.hok.fresh hT, rfl, fun l hl => by rw [I.tuple_inj hl hqx]; exact hx, fun l hl => by rw [I.tuple_inj hl hqy]; exact hy, fun l hl => by rw [I.tuple_inj hl hqz]; exact hu⟩, ⟨hz2, hTI2, hTO2, t1, t2, t3⟩, fun d hd => ?_⟩
    rw [upd_ne (Nat.ne_of_lt (Nat.lt_of_lt_of_le (low d hd) hT))]
    exact (hf d hd).1
  done := by
    intro X hP hw hK hc i pins s σ H E I hf st hg
    subst hP hw hK
    obtain ⟨hz, hTI, ⟨x0, y0, u0, hTO⟩, h1, h2, h3⟩ := st
    obtain ⟨xs, ys, zs, hqx, hqy, hqz, n1, n2, n3⟩ := hg
    obtain ⟨its, rv, p1, _⟩ := I.tuple hqx
    obtain ⟨its2, rv2, p2, _⟩ := I.tuple hqy
    obtain ⟨its3, rv3, p3, _⟩ := I.tuple hqz
    have hh : X.A.in1.handled = none := I.ok.hd hc
    have W := WalksT.zipD3 (prog := X.prog) (w := X.w) (A := X.A) S (Draws.tuple hh i1 a (tup_ne_iter p1 h1) its.toArray) (Draws.tuple hh i2 b (tup_ne_iter p2 h2) its2.toArray) (Draws.tuple hh i3 c (tup_ne_iter p3 h3) its3.toArray)
    have l1 := rv.length
    have l2 := rv2.length
    have l3 := rv3.length
    have hn : min (min its.toArray.size its2.toArray.size) its3.toArray.size = i := by
      rw [List.size_toArray, List.size_toArray, List.size_toArray]
      omega
    refine W.done s _ _ (by rw [hn]; exact ⟨hz, hTI, ⟨x0, y0, u0, hTO⟩, ⟨h1, p1⟩, ⟨h2, p2⟩, ⟨h3, p3⟩⟩) fun h' tk hk => ⟨rfl, I.turnedL (t' := tk) (ch := [z, TI, TO, i1, i2, i3]) (fun d o hb q => hk d o (fun hm => ?_) q) hf⟩
    simp only [List.mem_cons, List.not_mem_nil, or_false] at hb hm
    exact hb (by rcases hm with q | q | q | q | q <;> simp [q])
  self := fun A i s Q E st h => wpAny_pyIter_zip st.1 h
def iZip3 (K : PySem.W.Frag) (ta : TA) : TI := fun σ H R => ta σ H fun vs H1 => ∃ a b c xs ys zs, vs = [.ref a, .ref b, .ref c] ∧ SqT K H1 a xs ∧ SqT K H1 b ys ∧ SqT K H1 c zs ∧ R (Itz3 K a b c) H1
theorem pi_zip3 {X : Cx} {e e2 e3 : Expr} {ta : TA} {p pos tpos : Pos} {elts : List Expr} {kk : Nat} (hg : Gl X "zip") (hm : X.mg "zip" = none) (ha : PA X [e, e2, e3] ta)
    (hs : starEach [e, e2, e3] X.env = (false, eval e X.env) :: starEach [e2, e3] X.env := by rfl) (hpl : (backTo pos (starEach [e2, e3] X.env)).any (·.1) = false := by rfl) :
    PI X (.Tuple elts kk tpos) (.Call (.Name "zip" p) [e, e2, e3] [] pos) (iZip3 X.K ta) := by
  refine ⟨fun pins s σ H R I h => ?_⟩
  refine Call_ (ld_blt I hg hm PyProof.Rows.boot_zip (PyProof.Rows.callWith_type1 (thn (ha.run pos pins s σ H _ I h) fun us s1 ⟨vs, H1, I1, r1, q1⟩ => ?_) hs hpl))
  obtain ⟨a, b, c, xs, ys, zs, ex, qa, qb, qc, q⟩ := q1
  subst ex
  cases r1 with
  | cons r rr =>
    cases rr with
    | cons r' rr =>
      cases rr with
      | cons r'' rr =>
        cases rr
        cases r
        cases r'
        cases r''
        obtain ⟨its, rv, p1, _⟩ := I1.tuple qa
        obtain ⟨its2, rv2, p2, _⟩ := I1.tuple qb
        obtain ⟨its3, rv3, p3, _⟩ := I1.tuple qc
        obtain ⟨o1, ho1, _⟩ := id p1
        obtain ⟨o2, ho2, _⟩ := id p2
        obtain ⟨o3, ho3, _⟩ := id p3
        have S := zip_sep3 (N := s1.heap.objs.size) (fp1 := [a]) (fp2 := [b]) (fp3 := [c]) (fun d hd => by rw [List.mem_singleton.mp hd]; exact Heap.lt_size ho1) (fun d hd => by rw [List.mem_singleton.mp hd]; exact Heap.lt_size ho2) (fun d hd => by rw [List.mem_singleton.mp hd]; exact Heap.lt_size ho3)
        refine zip_begins3 (begins_tuple a its.toArray) (begins_tuple b its2.toArray) (begins_tuple c its3.toArray) p1 p2 p3 fun h' hz hTI hTO g1 g2 g3 hsz hk => wpAny_pyIter_zip hz ?_
        have I2 : Inv X pins σ H1 { s1 with heap := h' } := I1.kept (t' := s1.toks) hk
        refine ⟨s1.heap.objs.size + 5, [s1.heap.objs.size + 5, s1.heap.objs.size + 3, s1.heap.objs.size + 4, s1.heap.objs.size, s1.heap.objs.size + 1, s1.heap.objs.size + 2], _, _, H1, rfl, I2, turn_zip3 S, ⟨hz, hTI, ⟨_, _, _, hTO⟩, ⟨_, g1, rfl, rfl⟩, ⟨_, g2, rfl, rfl⟩, ⟨_, g3, rfl, rfl⟩⟩, fun d hd => ?_, q⟩
        have e' : d = s1.heap.objs.size + 5 ∨ d = s1.heap.objs.size + 3 ∨ d = s1.heap.objs.size + 4 ∨ d = s1.heap.objs.size ∨ d = s1.heap.objs.size + 1 ∨ d = s1.heap.objs.size + 2 := by simpa using hd
        have hle : s1.heap.objs.size ≤ d := by
          rcases e' with z | z | z | z | z | z
          · rw [z]; exact Nat.le_add_right _ _
          · rw [z]; exact Nat.le_add_right _ _
          · rw [z]; exact Nat.le_add_right _ _
          · rw [z]; exact Nat.le_refl _
          · rw [z]; exact Nat.le_add_right _ _
          · rw [z]; exact Nat.le_add_right _ _
        exact I1.fpOk hle (I1.hok.fresh hle)
/-- a list comprehension over zip of three tuples of one length -/
theorem lc_zip3 {K : PySem.W.Frag} {a b c : Addr} {xs ys zs : List V} {g : TG} {tt : TT} {te : TE} {vs : List Nat} {σ : L2.St} {H1 : Hp} {D : Addr} {Qd : Hp → Prop} (hl1 : xs.length = ys.length) (hl2 : xs.length = zs.length) (Pv : Nat → Hp → Prop) (h0 : Pv 0 (upd H1 D (.lst []))) (hl : ∀ i H, i ≤ xs.length → Pv i H → SqT K H a xs ∧ SqT K H b ys ∧ SqT K H c zs)
    (hs : ∀ i x y z T H, xs[i]? = some x → ys[i]? = some y → zs[i]? = some z → Pv i H → H T = none → g (.ref T) (wipe σ vs) (upd H T (.tup [x, y, z])) fun σ2 H2 => wipe σ2 vs = wipe σ vs ∧ tt σ2 H2 fun b H3 =>
      if b = true then te σ2 H3 fun y H4 => ∃ acc, H4 D = some (.lst acc) ∧ acc.length < sizeLine ∧ Pv (i + 1) (upd H4 D (.lst (acc ++ [y]))) else Pv (i + 1) H3) (hd : ∀ H, Pv xs.length H → Qd H) :
    ∃ W : Nat → Nat → Hp → Prop, (∃ m, W 0 m (upd H1 D (.lst []))) ∧ ∀ i m H, W i m H →
      ((Itz3 K a b c).stop i H ∧ Qd H) ∨ ((Itz3 K a b c).go i H ∧ ∃ Nx : Hp → Prop, (∀ H', Nx H' → ∃ m', m' < m ∧ W (i + 1) m' H') ∧ ∀ x H', (Itz3 K a b c).yld i H x H' → g x (wipe σ vs) H' fun σ2 H2 => wipe σ2 vs = wipe σ vs ∧ tt σ2 H2 fun b H3 =>
        if b = true then te σ2 H3 fun y H4 => ∃ acc, H4 D = some (.lst acc) ∧ acc.length < sizeLine ∧ Nx (upd H4 D (.lst (acc ++ [y]))) else Nx H3) := by
  refine ⟨fun i m H => m = xs.length - i ∧ i ≤ xs.length ∧ Pv i H, ⟨xs.length, by simp, Nat.zero_le _, h0⟩, ?_⟩
  rintro i m H ⟨rfl, hi, p⟩
  obtain ⟨qx, qy, qz⟩ := hl i H hi p
  by_cases hlt : i < xs.length
  · have hx : xs[i]? = some xs[i] := List.getElem?_eq_getElem hlt
    have hlt2 : i < ys.length := by omega
    have hlt3 : i < zs.length := by omega
    have hy : ys[i]? = some ys[i] := List.getElem?_eq_getElem hlt2
    have hz : zs[i]? = some zs[i] := List.getElem?_eq_getElem hlt3
    refine .inr ⟨⟨xs, ys, zs, _, _, _, qx, qy, qz, hx, hy, hz⟩, Pv (i + 1), fun H' p' => ⟨xs.length - (i + 1), by omega, rfl, hlt, p'⟩, fun v H' y => ?_⟩
    obtain ⟨T, x', y', z', rfl, hT, rfl, f1, f2, f3⟩ := y
    exact hs i x' y' z' T H (f1 xs qx) (f2 ys qy) (f3 zs qz) p hT
  · have e : i = xs.length := by omega
    subst e
    exact .inl ⟨⟨xs, ys, zs, qx, qy, qz, rfl, by omega, by omega⟩, hd H p⟩
end Mint


namespace Mint
open PySem PySem.Spec PyProof.Rows L2 GxR Gx RZ

/-! ### a tuple, taken once -/
theorem tuple_mulOne (l : Addr) (items : Array Value) (n : Nat) (dd : Option Addr) (sl : Array (Option Value)) (u : Tok) :
    Meets (Builtin.«tuple.__mul__» ⟨[.ref l, .int 1 u], []⟩) (fun _ R s => s.heap.get? l = some { cls := .type "tuple", dict := dd, data := .seq items n, slots := sl } ∧
      R (.ok (.ret (Value.ref l))) { s with heap := s.heap, toks := s.toks }) :=
  .of_wp fun prog w A R s h => by
    obtain ⟨hp, g, d, tk, os⟩ := s
    obtain ⟨hl, h⟩ := h
    have f1 := AutoSeq1.idx_int
    have c0 : (decide ((1 : Int) < -(2 ^ 63)) || decide ((1 : Int) ≥ 2 ^ 63)) = false := by decide
    have c1 : (items.isEmpty || (1 : Int) == 1) = true := by rw [show ((1 : Int) == 1) = true from rfl, Bool.or_true]
    wp_walk using wpAny_loadPart' hl
    repeat (first
      | (refine wpAny_ite_false (decide_eq_false (by rw [c0]; exact Bool.false_ne_true)) ?_; wp_walk using wpAny_loadPart' hl)
      | (refine wpAny_ite_true (decide_eq_true c1) ?_; wp_walk using wpAny_loadPart' hl))
    exact ⟨_, rfl, h⟩
/-- t * k, k from 1 on -/
def rRepA (K : PySem.W.Frag) : R2 := fun x y H Q => ∃ l k xs, x = .ref l ∧ y = .int k ∧ SqT K H l xs ∧ xs ≠ [] ∧ 1 ≤ k ∧ k ≤ 1000 ∧ xs.length ≤ 1000 ∧ (k = 1 → Q (.ref l) H) ∧ (k ≠ 1 → ∀ p, H p = none → Q (.ref p) (upd H p (.tup (List.replicate k.toNat xs).flatten)))
section
variable {X : Cx}
theorem op_repA : OpR X (binaryOp .Mult) (rRepA X.K) := by
  intro pins s σ H x y v u Q I rx ry h
  obtain ⟨l, k, xs, ex, ey, hT, hne, h1, h2, hz, q1, q2⟩ := h
  by_cases hk : k = 1
  · subst hk ex ey
    cases rx
    obtain ⟨t, rfl⟩ := ry
    obtain ⟨its, r, ⟨⟨cls, dd, data, sl⟩, ho, hc, n, hd⟩, hs⟩ := I.tuple hT
    simp only at hc hd
    subst hc hd
    refine wpAny_binaryOp_repeat_ref (T := "tuple") (U := "int") (by decide) ⟨_, ho, rfl⟩ (fun s' => typeIs_int s' 1 t) noFill_tuple_mul F.fills_int_mul F.slot_int_rmul repeat_tuple F.slot_int_index.lookup
      (call_meets F.slot_int_rmul (typeIs_int s 1 t) F.entry_int_rmul (F.args_int_rmul_2 _ _) (int_rmul_tuple 1 t l its.toArray n dd sl)
        ⟨ho, rfl, ⟨_, ho, rfl⟩, call_meets F.slot_tuple_mul ⟨_, ho, rfl⟩ F.entry_tuple_mul (F.args_tuple_mul_2 _ _) (tuple_mulOne l its.toArray n dd sl t) ⟨ho, ?_⟩⟩)
    exact ⟨.ref l, H, I, rfl, q1 rfl⟩
  · exact op_repT pins s σ H x y v u Q I rx ry ⟨l, k, xs, ex, ey, hT, hne, by omega, h2, hz, q2 hk⟩
end
end Mint


namespace Fw
open PySem PySem.Spec PyProof.Rows L2 GxR Gx Mint

/-! ### data without lists -/
mutual
inductive Fz (K : PySem.W.Frag) (H : Hp) : V → PyData → Prop
  | non : Fz K H .non .none
  | bl (b : Bool) : Fz K H (.bl b) (.bool b)
  | int (i : Int) : Fz K H (.int i) (.int i)
  | str (x : Str) : Fz K H (.str x) (.str x)
  | tup {a : Addr} {vs : List V} {ds : List PyData} : SqT K H a vs → FzA K H vs ds → Fz K H (.ref a) (.tuple ds)
inductive FzA (K : PySem.W.Frag) (H : Hp) : List V → List PyData → Prop
  | nil : FzA K H [] []
  | cons {v : V} {vs : List V} {d : PyData} {ds : List PyData} : Fz K H v d → FzA K H vs ds → FzA K H (v :: vs) (d :: ds)
end
/-- what is kept of a heap, but at the addresses F -/
structure Kp (F : Addr → Prop) (H H' : Hp) : Prop where
  obj : ∀ b o, ¬ F b → kp true o = true → H b = some o → H' b = some o
  tup : ∀ b xs, Rd H b (.tup xs) → Rd H' b (.tup xs)
  tab : ∀ P, TabG H P → TabG H' P
  non : ∀ b, H' b = none → H b = none
abbrev F0 : Addr → Prop := fun _ => False
section
variable {K : PySem.W.Frag} {H H1 H2 : Hp} {F G : Addr → Prop}
theorem Kp.refl : Kp F H H := ⟨fun _ _ _ _ h => h, fun _ _ h => h, fun _ h => h, fun _ h => h⟩
theorem Kp.trans (a : Kp F H H1) (b : Kp F H1 H2) : Kp F H H2 := ⟨fun c o n k h => b.obj c o n k (a.obj c o n k h), fun c xs h => b.tup c xs (a.tup c xs h), fun P h => b.tab P (a.tab P h), fun c h => a.non c (b.non c h)⟩
theorem Kp.mono (a : Kp F H H1) (h : ∀ b, F b → G b) : Kp G H H1 := ⟨fun c o n k e => a.obj c o (fun z => n (h c z)) k e, a.tup, a.tab, a.non⟩
/-- new addresses may be changed, too -/
theorem Kp.fresh (a : Kp F H H1) (b : Kp G H1 H2) (h : ∀ c, G c → F c ∨ H c = none) : Kp F H H2 := by
  refine ⟨fun c o n k e => b.obj c o (fun z => ?_) k (a.obj c o n k e), fun c xs h => b.tup c xs (a.tup c xs h), fun P h => b.tab P (a.tab P h), fun c h => a.non c (b.non c h)⟩
  rcases h c z with z | z
  · exact n z
  · rw [z] at e; cases e
theorem Kp.of_ext (e : ExtP H H1) : Kp F H H1 := ⟨fun b o _ k h => e.obj b o k h, fun b xs h => e.rd rfl h, e.tab, e.non⟩
theorem Kp.ext (a : Kp F0 H H1) : ExtP H H1 := ⟨fun b o k h => a.obj b o (fun z => z) k h, a.tab, a.non⟩
theorem Kp.new {p : Addr} (h : H p = none) (o : HO) : Kp F H (upd H p o) := .of_ext (Ext.new h o)
theorem Kp.live (a : Kp F H H1) {b : Addr} (h : H b ≠ none) : H1 b ≠ none := fun z => h (a.non b z)
/-- an object that is no tuple is written -/
theorem Kp.put {p : Addr} {u o : HO} (hF : F p) (h : H p = some u) (hu : ∀ xs, u ≠ .tup xs) (hz : ∀ ob v, u ≠ .frz ob v) (ht : ∀ ps, u ≠ .tbl ps) : Kp F H (upd H p o) := by
  refine ⟨fun b v n k e => ?_, fun b xs e => ?_, fun P ⟨ps, e, t⟩ => ?_, fun b e => ?_⟩
  · rw [upd_ne (fun z => n (by rw [z]; exact hF))]
    exact e
  · have : b ≠ p := fun z => by
      subst z
      rcases e with e | ⟨ob, e⟩
      · rw [h] at e; exact hu xs (Option.some.inj e)
      · rw [h] at e; exact hz ob _ (Option.some.inj e)
    rcases e with e | ⟨ob, e⟩
    · exact .inl (by rw [upd_ne this]; exact e)
    · exact .inr ⟨ob, by rw [upd_ne this]; exact e⟩
  · have : P ≠ p := fun z => by
      subst z
      rw [h] at e; exact ht ps (Option.some.inj e)
    exact ⟨ps, by rw [upd_ne this]; exact e, t⟩
  · by_cases z : b = p
    · rw [z, upd_same] at e; cases e
    · rw [upd_ne z] at e; exact e
theorem Kp.sqT (k : Kp F H H1) {a : Addr} {xs : List V} (h : SqT K H a xs) : SqT K H1 a xs := by
  rcases h with h | h
  · exact .inl (k.tup _ _ h)
  · exact .inr h
mutual
theorem Fz.keep (k : Kp F H H1) : ∀ {d : PyData} {v : V}, Fz K H v d → Fz K H1 v d
  | _, _, .non => .non
  | _, _, .bl b => .bl b
  | _, _, .int i => .int i
  | _, _, .str x => .str x
  | _, _, .tup h t => .tup (k.sqT h) (FzA.keep k t)
theorem FzA.keep (k : Kp F H H1) : ∀ {ds : List PyData} {vs : List V}, FzA K H vs ds → FzA K H1 vs ds
  | _, _, .nil => .nil
  | _, _, .cons h t => .cons (Fz.keep k h) (FzA.keep k t)
end
mutual
theorem Fz.dp : ∀ {d : PyData} {v : V}, Fz K H v d → Dp K H v d
  | _, _, .non => .non
  | _, _, .bl b => .bl b
  | _, _, .int i => .int i
  | _, _, .str x => .str x
  | _, _, .tup h t => .tup h (FzA.dp t)
theorem FzA.dp : ∀ {ds : List PyData} {vs : List V}, FzA K H vs ds → DpAll K H vs ds
  | _, _, .nil => .nil
  | _, _, .cons h t => .cons (Fz.dp h) (FzA.dp t)
end
mutual
def nol : PyData → Bool
  | .list _ => false
  | .dict _ => false
  | .tuple ds => nols ds
  | _ => true
def nols : List PyData → Bool
  | [] => true
  | d :: ds => nol d && nols ds
end
mutual
theorem fz_of : ∀ {d : PyData} {v : V}, Dp K H v d → nol d = true → Fz K H v d
  | _, _, .non, _ => .non
  | _, _, .bl b, _ => .bl b
  | _, _, .int i, _ => .int i
  | _, _, .str x, _ => .str x
  | _, _, .tup h t, n => .tup h (fzA_of t n)
  | _, _, .lst _ _, n => by simp [nol] at n
theorem fzA_of : ∀ {ds : List PyData} {vs : List V}, DpAll K H vs ds → nols ds = true → FzA K H vs ds
  | _, _, .nil, _ => .nil
  | _, _, .cons h t, n => by
    rw [nols, Bool.and_eq_true] at n
    exact .cons (fz_of h n.1) (fzA_of t n.2)
end
theorem FzA.len : ∀ {vs : List V} {ds : List PyData}, FzA K H vs ds → vs.length = ds.length
  | _, _, .nil => rfl
  | _, _, .cons _ t => congrArg (· + 1) t.len
theorem FzA.get : ∀ {vs : List V} {ds : List PyData} {i : Nat} {v : V}, FzA K H vs ds → vs[i]? = some v → ∃ d, ds[i]? = some d ∧ Fz K H v d
  | _, _, _, _, .nil, e => by simp at e
  | _, _, 0, _, .cons h _, e => by simp at e; subst e; exact ⟨_, rfl, h⟩
  | _, _, i + 1, v, .cons _ t, e => by
    obtain ⟨d, h1, h2⟩ := FzA.get (i := i) (v := v) t (by simpa using e)
    exact ⟨d, by simpa using h1, h2⟩
theorem FzA.at_ : ∀ {vs : List V} {ds : List PyData} {i : Nat} {d : PyData}, FzA K H vs ds → ds[i]? = some d → ∃ v, vs[i]? = some v ∧ Fz K H v d
  | _, _, _, _, .nil, e => by simp at e
  | _, _, 0, _, .cons h _, e => by simp at e; subst e; exact ⟨_, rfl, h⟩
  | _, _, i + 1, v, .cons _ t, e => by
    obtain ⟨d, h1, h2⟩ := FzA.at_ (i := i) t (by simpa using e)
    exact ⟨d, by simpa using h1, h2⟩
theorem FzA.app : ∀ {vs ws : List V} {ds es : List PyData}, FzA K H vs ds → FzA K H ws es → FzA K H (vs ++ ws) (ds ++ es)
  | _, _, _, _, .nil, s => s
  | _, _, _, _, .cons h t, s => .cons h (t.app s)
theorem FzA.take {vs : List V} {ds : List PyData} (h : FzA K H vs ds) (n : Nat) : FzA K H (vs.take n) (ds.take n) := by
  induction n generalizing vs ds with
  | zero => exact .nil
  | succ n ih =>
    cases h with
    | nil => exact .nil
    | cons h t => exact .cons h (ih t)
theorem FzA.drop {vs : List V} {ds : List PyData} (h : FzA K H vs ds) (n : Nat) : FzA K H (vs.drop n) (ds.drop n) := by
  induction n generalizing vs ds with
  | zero => exact h
  | succ n ih =>
    cases h with
    | nil => exact .nil
    | cons h t => exact ih t
theorem Fz.int_inv {v : V} {i : Int} (h : Fz K H v (.int i)) : v = .int i := by cases h; rfl
theorem Fz.str_inv {v : V} {i : Str} (h : Fz K H v (.str i)) : v = .str i := by cases h; rfl
theorem Fz.bl_inv {v : V} {i : Bool} (h : Fz K H v (.bool i)) : v = .bl i := by cases h; rfl
theorem Fz.non_inv {v : V} (h : Fz K H v .none) : v = .non := by cases h; rfl
theorem Fz.tup_inv {v : V} {ds : List PyData} (h : Fz K H v (.tuple ds)) : ∃ a vs, v = .ref a ∧ SqT K H a vs ∧ FzA K H vs ds := by
  cases h with
  | @tup a vs _ h t => exact ⟨a, vs, rfl, h, t⟩

/-! ### contents -/
/-- an object of another kind -/
structure Own (K : PySem.W.Frag) where
  R : Hp → V → List Addr → Prop
  keep : ∀ {H H' : Hp} {v : V} {F : List Addr} {G : Addr → Prop}, R H v F → (∀ a ∈ F, ¬ G a) → Kp G H H' → R H' v F
  live : ∀ {H : Hp} {v : V} {F : List Addr}, R H v F → ∀ a ∈ F, H a ≠ none
  ref : ∀ {H : Hp} {v : V} {F : List Addr}, R H v F → ∃ a, v = .ref a
inductive Cn (K : PySem.W.Frag) where
  | d (x : PyData)
  | l (xs : List PyData)
  | k (kvs : List (Key × PyData))
  | t (kvs : List (List Key × PyData))
  | x (o : Own K)
def KvR {κ : Type} (K : PySem.W.Frag) (H : Hp) (a : κ × V) (b : κ × PyData) : Prop := a.1 = b.1 ∧ Fz K H a.2 b.2
def Rep (K : PySem.W.Frag) (H : Hp) (v : V) : Cn K → List Addr → Prop
  | .d x, F => Fz K H v x ∧ F = []
  | .l xs, F => ∃ p vs, v = .ref p ∧ F = [p] ∧ H p = some (.lst vs) ∧ FzA K H vs xs
  | .k kvs, F => ∃ p ks, v = .ref p ∧ F = [p] ∧ H p = some (.dK ks) ∧ Paired (KvR K H) ks kvs
  | .t kvs, F => ∃ p ks, v = .ref p ∧ F = [p] ∧ H p = some (.dT ks) ∧ Paired (KvR K H) ks kvs
  | .x o, F => o.R H v F
theorem paired_mono {α β : Type} {R S : α → β → Prop} (h : ∀ a b, R a b → S a b) : ∀ {xs : List α} {ys : List β}, Paired R xs ys → Paired S xs ys
  | _, _, .nil => .nil
  | _, _, .cons r t => .cons (h _ _ r) (paired_mono h t)
theorem Rep.keep {v : V} {c : Cn K} {L : List Addr} (h : Rep K H v c L) (n : ∀ a ∈ L, ¬ F a) (k : Kp F H H1) : Rep K H1 v c L := by
  cases c with
  | d x => exact ⟨h.1.keep k, h.2⟩
  | l xs =>
    obtain ⟨p, vs, e, rfl, h1, h2⟩ := h
    exact ⟨p, vs, e, rfl, k.obj _ _ (n p (List.mem_singleton.mpr rfl)) rfl h1, h2.keep k⟩
  | k kvs =>
    obtain ⟨p, vs, e, rfl, h1, h2⟩ := h
    exact ⟨p, vs, e, rfl, k.obj _ _ (n p (List.mem_singleton.mpr rfl)) rfl h1, paired_mono (fun _ _ q => ⟨q.1, q.2.keep k⟩) h2⟩
  | t kvs =>
    obtain ⟨p, vs, e, rfl, h1, h2⟩ := h
    exact ⟨p, vs, e, rfl, k.obj _ _ (n p (List.mem_singleton.mpr rfl)) rfl h1, paired_mono (fun _ _ q => ⟨q.1, q.2.keep k⟩) h2⟩
  | x o => exact o.keep h n k
theorem Rep.live {v : V} {c : Cn K} {L : List Addr} (h : Rep K H v c L) : ∀ a ∈ L, H a ≠ none := by
  cases c with
  | d x => rw [h.2]; intro a ha; cases ha
  | l xs =>
    obtain ⟨p, vs, e, rfl, h1, h2⟩ := h
    intro a ha z
    rw [List.mem_singleton.mp ha, h1] at z; cases z
  | k kvs =>
    obtain ⟨p, vs, e, rfl, h1, h2⟩ := h
    intro a ha z
    rw [List.mem_singleton.mp ha, h1] at z; cases z
  | t kvs =>
    obtain ⟨p, vs, e, rfl, h1, h2⟩ := h
    intro a ha z
    rw [List.mem_singleton.mp ha, h1] at z; cases z
  | x o => exact o.live h
end

/-! ### the store -/
inductive SC (K : PySem.W.Frag) where
  | e
  | f (c : Cn K)
  | io (c : Cn K)
def SC.cn {K : PySem.W.Frag} : SC K → Option (Cn K)
  | .e => none
  | .f c => some c
  | .io c => some c
abbrev Sto (K : PySem.W.Frag) := List (SC K)
def cnAt {K : PySem.W.Frag} (s : Sto K) (i : Nat) : Option (Cn K) := match s[i]? with
  | some c => c.cn
  | none => none
def isIo {K : PySem.W.Frag} (s : Sto K) (i : Nat) : Prop := ∃ c, s[i]? = some (.io c)
abbrev Pn := Nat → Option (V × List Addr)
abbrev Fp := Nat → List Addr
def inF (fp : Fp) : Addr → Prop := fun a => ∃ i, a ∈ fp i
structure RS (K : PySem.W.Frag) (Ps : List Addr) (base : Hp) (M : Addr → Prop) (P : Pn) (H : Hp) (σ : L2.St) (s : Sto K) (fp : Fp) : Prop where
  len : σ.length = s.length
  cn : ∀ i c, cnAt s i = some c → ∃ v, σ[i]? = some (some v) ∧ Rep K H v c (fp i)
  em : ∀ i, cnAt s i = none → fp i = []
  dj : ∀ i j a, a ∈ fp i → a ∈ fp j → i = j
  fr : ∀ i a, a ∈ fp i → M a ∨ base a = none
  io : ∀ i v L, P i = some (v, L) → isIo s i ∧ σ[i]? = some (some v) ∧ fp i = L
  ni : ∀ i, isIo s i → P i ≠ none
  kp : Kp M base H
  tb : Tabs Ps H
  ml : ∀ a, M a → H a ≠ none
section
variable {K : PySem.W.Frag} {Ps : List Addr} {base H H1 : Hp} {M : Addr → Prop} {P : Pn} {σ : L2.St} {s s1 : Sto K} {fp : Fp}
theorem RS.live (r : RS K Ps base M P H σ s fp) {a : Addr} (h : inF fp a) : H a ≠ none := by
  obtain ⟨i, h⟩ := h
  cases e : cnAt s i with
  | none => rw [r.em i e] at h; cases h
  | some c =>
    obtain ⟨v, _, q⟩ := r.cn i c e
    exact q.live a h
/-- a step that leaves the objects of the store alone -/
theorem RS.step (r : RS K Ps base M P H σ s fp) {G : Addr → Prop} (k : Kp G H H1) (n : ∀ a, inF fp a → ¬ G a) (hG : ∀ a, G a → M a ∨ base a = none) : RS K Ps base M P H1 σ s fp where
  len := r.len
  cn := fun i c e => by
    obtain ⟨v, h1, h2⟩ := r.cn i c e
    exact ⟨v, h1, h2.keep (fun a ha => n a ⟨i, ha⟩) k⟩
  em := r.em
  dj := r.dj
  fr := r.fr
  io := r.io
  ni := r.ni
  kp := r.kp.fresh k hG
  tb := fun P hp => k.tab P (r.tb P hp)
  ml := fun a h => k.live (r.ml a h)
theorem RS.ext (r : RS K Ps base M P H σ s fp) (k : Kp F0 H H1) : RS K Ps base M P H1 σ s fp := r.step k (fun _ _ z => z) fun _ z => z.elim
/-- the loop's own base -/
theorem RS.rebase (r : RS K Ps base M P H σ s fp) : RS K Ps H (fun a => M a ∨ inF fp a) P H σ s fp where
  len := r.len
  cn := r.cn
  em := r.em
  dj := r.dj
  fr := fun i a h => .inl (.inr ⟨i, h⟩)
  io := r.io
  ni := r.ni
  kp := .refl
  tb := r.tb
  ml := fun a h => by
    rcases h with h | h
    · exact r.ml a h
    · exact r.live h
theorem RS.unbase (r : RS K Ps base M P H σ s fp) {σ1 : L2.St} {fp1 : Fp} (q : RS K Ps H (fun a => M a ∨ inF fp a) P H1 σ1 s1 fp1) : RS K Ps base M P H1 σ1 s1 fp1 where
  len := q.len
  cn := q.cn
  em := q.em
  dj := q.dj
  fr := fun i a h => by
    rcases q.fr i a h with (z | ⟨j, z⟩) | z
    · exact .inl z
    · exact r.fr j a z
    · exact .inr (r.kp.non a z)
  io := q.io
  ni := q.ni
  kp := r.kp.fresh q.kp fun a h => by
    rcases h with h | ⟨j, h⟩
    · exact .inl h
    · exact r.fr j a h
  tb := q.tb
  ml := fun a h => q.ml a (.inl h)
end
end Fw


namespace Fw
open PySem PySem.Spec PyProof.Rows L2 GxR Gx Mint

/-! ### what an expression gives -/
inductive RV (K : PySem.W.Frag) where
  | d (x : PyData)
  | n (c : Cn K)
  | s (i : Nat)
def RR (K : PySem.W.Frag) (H : Hp) (σ : L2.St) (v : V) : RV K → List Addr → Prop
  | .d x, G => Fz K H v x ∧ G = []
  | .n c, G => Rep K H v c G
  | .s i, G => σ[i]? = some (some v) ∧ G = []
abbrev AE (K : PySem.W.Frag) := Sto K → (RV K → Sto K → Prop) → Prop
abbrev AA (K : PySem.W.Frag) := Sto K → (List (RV K) → Sto K → Prop) → Prop
abbrev AT (K : PySem.W.Frag) := Sto K → (Bool → Sto K → Prop) → Prop
inductive RRs (K : PySem.W.Frag) (H : Hp) (σ : L2.St) : List V → List (RV K) → List (List Addr) → Prop
  | nil : RRs K H σ [] [] []
  | cons {v : V} {vs : List V} {r : RV K} {rs : List (RV K)} {G : List Addr} {Gs : List (List Addr)} : RR K H σ v r G → RRs K H σ vs rs Gs → RRs K H σ (v :: vs) (r :: rs) (G :: Gs)
abbrev DjL (Gs : List (List Addr)) : Prop := Gs.Pairwise fun G G' => ∀ a ∈ G, a ∉ G'
section
variable {K : PySem.W.Frag} {H H1 : Hp} {σ : L2.St}
theorem RR.keep {v : V} {r : RV K} {G : List Addr} {F : Addr → Prop} (h : RR K H σ v r G) (n : ∀ a ∈ G, ¬ F a) (k : Kp F H H1) : RR K H1 σ v r G := by
  cases r with
  | d x => exact ⟨h.1.keep k, h.2⟩
  | n c => exact Rep.keep h n k
  | s i => exact h
theorem RR.live {v : V} {r : RV K} {G : List Addr} (h : RR K H σ v r G) : ∀ a ∈ G, H a ≠ none := by
  cases r with
  | d x => rw [h.2]; intro a ha; cases ha
  | n c => exact Rep.live h
  | s i => rw [h.2]; intro a ha; cases ha
end

/-- an expression's reading stands for f -/
class SndE (K : PySem.W.Frag) (Ps : List Addr) (t : TE) (f : outParam (AE K)) : Prop where
  run : ∀ {base : Hp} {M : Addr → Prop} {P : Pn} {H : Hp} {σ : L2.St} {s : Sto K} {fp : Fp} {Q : VK} {Q' : RV K → Sto K → Prop}, RS K Ps base M P H σ s fp → f s Q' →
    (∀ v H' r s' G, RS K Ps base M P H' σ s' fp → Kp (inF fp) H H' → RR K H' σ v r G → (∀ a ∈ G, H a = none) → Q' r s' → Q v H') → t σ H Q
class SndA (K : PySem.W.Frag) (Ps : List Addr) (t : TA) (f : outParam (AA K)) : Prop where
  run : ∀ {base : Hp} {M : Addr → Prop} {P : Pn} {H : Hp} {σ : L2.St} {s : Sto K} {fp : Fp} {Q : List V → Hp → Prop} {Q' : List (RV K) → Sto K → Prop}, RS K Ps base M P H σ s fp → f s Q' →
    (∀ vs H' rs s' Gs, RS K Ps base M P H' σ s' fp → Kp (inF fp) H H' → RRs K H' σ vs rs Gs → (∀ G ∈ Gs, ∀ a ∈ G, H a = none) → DjL Gs → Q' rs s' → Q vs H') → t σ H Q
class SndT (K : PySem.W.Frag) (Ps : List Addr) (t : TT) (f : outParam (AT K)) : Prop where
  run : ∀ {base : Hp} {M : Addr → Prop} {P : Pn} {H : Hp} {σ : L2.St} {s : Sto K} {fp : Fp} {Q : Bool → Hp → Prop} {Q' : Bool → Sto K → Prop}, RS K Ps base M P H σ s fp → f s Q' →
    (∀ b H' s', RS K Ps base M P H' σ s' fp → Kp (inF fp) H H' → Q' b s' → Q b H') → t σ H Q

section
variable {K : PySem.W.Frag} {Ps : List Addr} {te ta tb tc : TE} {fe fa fb fc : AE K} {tt tu : TT} {ft fu : AT K} {tl : TA} {fl : AA K}

/-! ### names, constants -/
def rvOf {K : PySem.W.Frag} (i : Nat) : Cn K → RV K
  | .d x => .d x
  | _ => .s i
def aVar {K : PySem.W.Frag} (i : Nat) : AE K := fun s Q => ∃ c, cnAt s i = some c ∧ Q (rvOf i c) s
instance snd_var (i : Nat) : SndE K Ps (tVar i) (aVar i) := ⟨fun {base M P H σ s fp Q Q'} r h q => by
  obtain ⟨c, e, h⟩ := h
  obtain ⟨v, e1, e2⟩ := r.cn i c e
  refine ⟨v, e1, q v H _ s [] r .refl ?_ (fun a z => nomatch z) h⟩
  cases c with
  | d x => exact ⟨e2.1, rfl⟩
  | l xs => exact ⟨e1, rfl⟩
  | k xs => exact ⟨e1, rfl⟩
  | t xs => exact ⟨e1, rfl⟩
  | x o => exact ⟨e1, rfl⟩⟩
def aD {K : PySem.W.Frag} (x : PyData) : AE K := fun s Q => Q (.d x) s
theorem snd_c {v : V} {x : PyData} (h : ∀ H, Fz K H v x) : SndE K Ps (tC v) (aD x) := ⟨fun {base M P H σ s fp Q Q'} r hh q =>
  q v H (.d x) s [] r .refl ⟨h H, rfl⟩ (fun a z => nomatch z) hh⟩
instance snd_int (i : Int) : SndE K Ps (tC (.int i)) (aD (.int i)) := snd_c fun _ => .int i
instance snd_bl (i : Bool) : SndE K Ps (tC (.bl i)) (aD (.bool i)) := snd_c fun _ => .bl i
instance snd_str (i : Str) : SndE K Ps (tC (.str i)) (aD (.str i)) := snd_c fun _ => .str i
instance snd_non : SndE K Ps (tC .non) (aD .none) := snd_c fun _ => .non

/-! ### operators over data -/
abbrev D2 := PyData → PyData → (PyData → Prop) → Prop
class OpD (K : PySem.W.Frag) (r : R2) (g : outParam D2) : Prop where
  run : ∀ {H : Hp} {u v : V} {x y : PyData} {Q : VK} {Q' : PyData → Prop}, Fz K H u x → Fz K H v y → g x y Q' → (∀ w H' z, Kp F0 H H' → Fz K H' w z → Q' z → Q w H') → r u v H Q
def aOp {K : PySem.W.Frag} (g : D2) (a b : AE K) : AE K := fun s Q => a s fun r s1 => ∃ x, r = .d x ∧ b s1 fun r2 s2 => ∃ y, r2 = .d y ∧ g x y fun z => Q (.d z) s2
theorem RS.nof {base : Hp} {M : Addr → Prop} {P : Pn} {H : Hp} {σ : L2.St} {s : Sto K} {fp : Fp} (r : RS K Ps base M P H σ s fp) {a : Addr} (h : H a = none) : ¬ inF fp a := fun z => r.live z h
instance snd_op {r : R2} {g : D2} [o : OpD K r g] [a : SndE K Ps ta fa] [b : SndE K Ps tb fb] : SndE K Ps (tOp r ta tb) (aOp g fa fb) := ⟨fun {base M P H σ s fp Q Q'} rs h q => by
  refine a.run rs h fun v H1 r1 s1 G rs1 k1 e1 n1 ⟨x, ex, h1⟩ => ?_
  subst ex
  refine b.run rs1 h1 fun u H2 r2 s2 G2 rs2 k2 e2 n2 ⟨y, ey, h2⟩ => ?_
  subst ey
  refine o.run (e1.1.keep k2) e2.1 h2 fun w H3 z k3 hz hq => ?_
  exact q w H3 (.d z) s2 [] (rs2.ext k3) ((k1.trans k2).trans (k3.mono fun _ z => z.elim)) ⟨hz, rfl⟩ (fun a z => nomatch z) hq⟩
def dII (f : Int → Int → Int) : D2 := fun x y Q => ∃ i j, x = .int i ∧ y = .int j ∧ Q (.int (f i j))
def dIB (f : Int → Int → Bool) : D2 := fun x y Q => ∃ i j, x = .int i ∧ y = .int j ∧ Q (.bool (f i j))
def dIIc (C : Int → Int → Prop) (f : Int → Int → Int) : D2 := fun x y Q => ∃ i j, x = .int i ∧ y = .int j ∧ C i j ∧ Q (.int (f i j))
instance op_ii (f : Int → Int → Int) : OpD K (rI0 fun i j => .int (f i j)) (dII f) := ⟨fun hu hv h q => by
  obtain ⟨i, j, rfl, rfl, h⟩ := h
  exact ⟨i, j, hu.int_inv, hv.int_inv, q _ _ _ .refl (.int _) h⟩⟩
instance op_ib (f : Int → Int → Bool) : OpD K (rI0 fun i j => .bl (f i j)) (dIB f) := ⟨fun hu hv h q => by
  obtain ⟨i, j, rfl, rfl, h⟩ := h
  exact ⟨i, j, hu.int_inv, hv.int_inv, q _ _ _ .refl (.bl _) h⟩⟩
instance op_iic (C : Int → Int → Prop) (f : Int → Int → Int) : OpD K (rI C fun i j => .int (f i j)) (dIIc C f) := ⟨fun hu hv h q => by
  obtain ⟨i, j, rfl, rfl, c, h⟩ := h
  exact ⟨i, j, hu.int_inv, hv.int_inv, c, q _ _ _ .refl (.int _) h⟩⟩
/-- == of what is no tuple -/
def eqS : PyData → PyData → Option Bool
  | .int i, .int j => some (decide (i = j))
  | .str i, .str j => some (decide (i = j))
  | .bool i, .bool j => some (decide (i = j))
  | .none, .none => some true
  | .none, .int _ => some false | .int _, .none => some false
  | .none, .str _ => some false | .str _, .none => some false
  | .none, .bool _ => some false | .bool _, .none => some false
  | .int _, .str _ => some false | .str _, .int _ => some false
  | .bool _, .str _ => some false | .str _, .bool _ => some false
  | _, _ => none
theorem eqS_ok {H : Hp} {u v : V} {x y : PyData} {b : Bool} (hu : Fz K H u x) (hv : Fz K H v y) (e : eqS x y = some b) : scal u v = true ∧ decide (u = v) = b := by
  cases hu <;> cases hv <;> simp only [eqS, Option.some.injEq, reduceCtorEq] at e <;> subst e <;> refine ⟨rfl, ?_⟩ <;> simp
def dEq : D2 := fun x y Q => ∃ b, eqS x y = some b ∧ Q (.bool b)
def dNe : D2 := fun x y Q => ∃ b, eqS x y = some b ∧ Q (.bool (!b))
instance op_eqS : OpD K rEq dEq := ⟨fun hu hv h q => by
  obtain ⟨b, e, h⟩ := h
  obtain ⟨h1, h2⟩ := eqS_ok hu hv e
  refine ⟨h1, ?_⟩
  rw [h2]
  exact q _ _ _ .refl (.bl _) h⟩
instance op_neS : OpD K rNe dNe := ⟨fun hu hv h q => by
  obtain ⟨b, e, h⟩ := h
  obtain ⟨h1, h2⟩ := eqS_ok hu hv e
  refine ⟨h1, ?_⟩
  rw [h2]
  exact q _ _ _ .refl (.bl _) h⟩
/-- data at any depth -/
def dEqD : D2 := fun x y Q => SeqAt.shaped x = true ∧ SeqAt.shaped y = true ∧ Q (.bool (PyData.eqv x y))
def dNeD : D2 := fun x y Q => SeqAt.shaped x = true ∧ SeqAt.shaped y = true ∧ Q (.bool (!PyData.eqv x y))
instance op_eqDD : OpD K (rEqD K) dEqD := ⟨fun hu hv h q => ⟨_, _, hu.dp, hv.dp, h.1, h.2.1, q _ _ _ .refl (.bl _) h.2.2⟩⟩
instance op_neDD : OpD K (rNeD K) dNeD := ⟨fun hu hv h q => ⟨_, _, hu.dp, hv.dp, h.1, h.2.1, q _ _ _ .refl (.bl _) h.2.2⟩⟩
/-- t[i] of a tuple -/
def dIx : D2 := fun x y Q => ∃ ds i d, x = .tuple ds ∧ y = .int i ∧ atI ds i = some d ∧ Q d
theorem atI_fz {H : Hp} {vs : List V} {ds : List PyData} {i : Int} {d : PyData} (h : FzA K H vs ds) (e : atI ds i = some d) : ∃ v, atI vs i = some v ∧ Fz K H v d := by
  unfold atI at e ⊢
  rw [h.len]
  obtain ⟨j, e1, e2⟩ := Option.bind_eq_some_iff.mp e
  obtain ⟨v, h1, h2⟩ := h.at_ e2
  exact ⟨v, by rw [e1]; exact h1, h2⟩
instance op_ix : OpD K (rIxT K) dIx := ⟨fun hu hv h q => by
  obtain ⟨ds, i, d, rfl, rfl, e, h⟩ := h
  obtain ⟨a, vs, rfl, hS, hA⟩ := hu.tup_inv
  obtain ⟨w, e1, e2⟩ := atI_fz hA e
  exact ⟨a, vs, i, w, rfl, hv.int_inv, hS, e1, q _ _ _ .refl e2 h⟩⟩
/-- unary -/
def aUn {K : PySem.W.Frag} (g : PyData → (PyData → Prop) → Prop) (a : AE K) : AE K := fun s Q => a s fun r s1 => ∃ x, r = .d x ∧ g x fun z => Q (.d z) s1
def dI1 (f : Int → Int) : PyData → (PyData → Prop) → Prop := fun x Q => ∃ i, x = .int i ∧ Q (.int (f i))
instance snd_neg (f : Int → Int) [a : SndE K Ps ta fa] : SndE K Ps (tUn (rU fun i => .int (f i)) ta) (aUn (dI1 f) fa) := ⟨fun {base M P H σ s fp Q Q'} rs h q => by
  refine a.run rs h fun v H1 r1 s1 G rs1 k1 e1 n1 ⟨x, ex, i, ei, h1⟩ => ?_
  subst ex ei
  exact ⟨i, e1.1.int_inv, q _ _ (.d (.int (f i))) s1 [] rs1 k1 ⟨.int _, rfl⟩ (fun a z => nomatch z) h1⟩⟩
/-! ### what a result holds -/
def valOf {K : PySem.W.Frag} (s : Sto K) : RV K → Option (Cn K)
  | .d x => some (.d x)
  | .n c => some c
  | .s i => cnAt s i
def resOf {K : PySem.W.Frag} : Cn K → RV K
  | .d x => .d x
  | c => .n c
theorem RS.val {base : Hp} {M : Addr → Prop} {P : Pn} {H : Hp} {σ : L2.St} {s : Sto K} {fp : Fp} (rs : RS K Ps base M P H σ s fp) {v : V} {r : RV K} {G : List Addr} {c : Cn K} (h : RR K H σ v r G) (e : valOf s r = some c) : ∃ L, Rep K H v c L ∧ ∀ a ∈ L, a ∈ G ∨ inF fp a := by
  cases r with
  | d x => cases e; exact ⟨[], ⟨h.1, rfl⟩, fun a z => nomatch z⟩
  | n c' => cases e; exact ⟨G, h, fun a z => .inl z⟩
  | s i =>
    obtain ⟨w, e1, e2⟩ := rs.cn i c e
    rw [h.1] at e1
    cases e1
    exact ⟨fp i, e2, fun a z => .inr ⟨i, z⟩⟩
theorem rr_res {H : Hp} {σ : L2.St} {v : V} {c : Cn K} {G : List Addr} (h : Rep K H v c G) : RR K H σ v (resOf c) G := by
  cases c with
  | d x => exact h
  | l x => exact h
  | k x => exact h
  | t x => exact h
  | x o => exact h
def isNonC {K : PySem.W.Frag} : Cn K → Bool
  | .d .none => true
  | _ => false
theorem Rep.isNon {H : Hp} {v : V} {c : Cn K} {L : List Addr} (h : Rep K H v c L) : decide (v = V.non) = isNonC c := by
  cases c with
  | d x =>
    obtain ⟨h, _⟩ := h
    cases h <;> rfl
  | l x => obtain ⟨p, _, rfl, _⟩ := h; rfl
  | k x => obtain ⟨p, _, rfl, _⟩ := h; rfl
  | t x => obtain ⟨p, _, rfl, _⟩ := h; rfl
  | x o => obtain ⟨p, rfl⟩ := o.ref h; rfl
/-- x is None -/
def aIsN {K : PySem.W.Frag} (a : AE K) : AE K := fun s Q => a s fun r s1 => ∃ c, valOf s1 r = some c ∧ Q (.d (.bool (isNonC c))) s1
def aNotN {K : PySem.W.Frag} (a : AE K) : AE K := fun s Q => a s fun r s1 => ∃ c, valOf s1 r = some c ∧ Q (.d (.bool (!isNonC c))) s1
instance snd_isN [a : SndE K Ps ta fa] : SndE K Ps (tIsN ta) (aIsN fa) := ⟨fun {base M P H σ s fp Q Q'} rs h q => by
  refine a.run rs h fun v H1 r1 s1 G rs1 k1 e1 n1 ⟨c, ec, h1⟩ => ?_
  obtain ⟨L, hL, _⟩ := rs1.val e1 ec
  refine q _ _ (.d (.bool (isNonC c))) s1 [] rs1 k1 ⟨?_, rfl⟩ (fun a z => nomatch z) h1
  rw [hL.isNon]
  exact .bl _⟩
instance snd_notN [a : SndE K Ps ta fa] : SndE K Ps (tNotN ta) (aNotN fa) := ⟨fun {base M P H σ s fp Q Q'} rs h q => by
  refine a.run rs h fun v H1 r1 s1 G rs1 k1 e1 n1 ⟨c, ec, h1⟩ => ?_
  obtain ⟨L, hL, _⟩ := rs1.val e1 ec
  refine q _ _ (.d (.bool (!isNonC c))) s1 [] rs1 k1 ⟨?_, rfl⟩ (fun a z => nomatch z) h1
  rw [hL.isNon]
  exact .bl _⟩

/-! ### tests, and, or, not -/
def aTest {K : PySem.W.Frag} (a : AE K) : AT K := fun s Q => a s fun r s1 => ∃ b, r = .d (.bool b) ∧ Q b s1
instance snd_test [a : SndE K Ps te fe] : SndT K Ps (tTest te) (aTest fe) := ⟨fun {base M P H σ s fp Q Q'} rs h q => by
  refine a.run rs h fun v H1 r1 s1 G rs1 k1 e1 n1 ⟨b, eb, h1⟩ => ?_
  subst eb
  exact ⟨b, e1.1.bl_inv, q b H1 s1 rs1 k1 h1⟩⟩
instance snd_tB [a : SndE K Ps te fe] : SndT K Ps (tB te) (aTest fe) := ⟨fun {base M P H σ s fp Q Q'} rs h q => by
  refine a.run rs h fun v H1 r1 s1 G rs1 k1 e1 n1 ⟨b, eb, h1⟩ => ?_
  subst eb
  exact ⟨b, e1.1.bl_inv, q b H1 s1 rs1 k1 h1⟩⟩
def aAnd {K : PySem.W.Frag} (a b : AT K) : AT K := fun s Q => a s fun c s1 => if c = true then b s1 Q else Q false s1
def aOr {K : PySem.W.Frag} (a b : AT K) : AT K := fun s Q => a s fun c s1 => if c = true then Q true s1 else b s1 Q
def aNot {K : PySem.W.Frag} (a : AT K) : AT K := fun s Q => a s fun c s1 => Q (!c) s1
instance snd_and [a : SndT K Ps tt ft] [b : SndT K Ps tu fu] : SndT K Ps (tAnd tt tu) (aAnd ft fu) := ⟨fun {base M P H σ s fp Q Q'} rs h q => by
  refine a.run rs h fun c H1 s1 rs1 k1 h1 => ?_
  cases c with
  | true => exact b.run rs1 h1 fun c H2 s2 rs2 k2 h2 => q c H2 s2 rs2 (k1.trans k2) h2
  | false => exact q _ _ _ rs1 k1 h1⟩
instance snd_or [a : SndT K Ps tt ft] [b : SndT K Ps tu fu] : SndT K Ps (tOr tt tu) (aOr ft fu) := ⟨fun {base M P H σ s fp Q Q'} rs h q => by
  refine a.run rs h fun c H1 s1 rs1 k1 h1 => ?_
  cases c with
  | false => exact b.run rs1 h1 fun c H2 s2 rs2 k2 h2 => q c H2 s2 rs2 (k1.trans k2) h2
  | true => exact q _ _ _ rs1 k1 h1⟩
instance snd_not [a : SndT K Ps tt ft] : SndT K Ps (tNot tt) (aNot ft) := ⟨fun {base M P H σ s fp Q Q'} rs h q =>
  a.run rs h fun c H1 s1 rs1 k1 h1 => q _ _ _ rs1 k1 h1⟩
def aAndV {K : PySem.W.Frag} (a b : AE K) : AE K := fun s Q => a s fun r s1 => ∃ c, r = .d (.bool c) ∧ if c = true then b s1 Q else Q (.d (.bool false)) s1
def aOrV {K : PySem.W.Frag} (a b : AE K) : AE K := fun s Q => a s fun r s1 => ∃ c, r = .d (.bool c) ∧ if c = true then Q (.d (.bool true)) s1 else b s1 Q
def aNotV {K : PySem.W.Frag} (a : AE K) : AE K := fun s Q => a s fun r s1 => ∃ c, r = .d (.bool c) ∧ Q (.d (.bool (!c))) s1
theorem SndE.then {f : AE K} {t : TE} (b : SndE K Ps t f) {base : Hp} {M : Addr → Prop} {P : Pn} {H H1 : Hp} {σ : L2.St} {s : Sto K} {fp : Fp} {Q : VK} {Q' : RV K → Sto K → Prop} (rs : RS K Ps base M P H1 σ s fp) (h : f s Q') (k1 : Kp (inF fp) H H1)
    (q : ∀ v H' r s' G, RS K Ps base M P H' σ s' fp → Kp (inF fp) H H' → RR K H' σ v r G → (∀ a ∈ G, H a = none) → Q' r s' → Q v H') : t σ H1 Q :=
  b.run rs h fun v H2 r s2 G rs2 k2 e2 n2 h2 => q v H2 r s2 G rs2 (k1.trans k2) e2 (fun a ha => k1.non a (n2 a ha)) h2
instance snd_andV [a : SndE K Ps ta fa] [b : SndE K Ps tb fb] : SndE K Ps (tAndV ta tb) (aAndV fa fb) := ⟨fun {base M P H σ s fp Q Q'} rs h q => by
  refine a.run rs h fun v H1 r1 s1 G rs1 k1 e1 n1 ⟨c, eb, h1⟩ => ?_
  subst eb
  refine ⟨c, e1.1.bl_inv, ?_⟩
  cases c with
  | true => exact b.then rs1 h1 k1 q
  | false => exact q _ _ (.d (.bool false)) _ [] rs1 k1 ⟨.bl _, rfl⟩ (fun a z => nomatch z) h1⟩
instance snd_orV [a : SndE K Ps ta fa] [b : SndE K Ps tb fb] : SndE K Ps (tOrV ta tb) (aOrV fa fb) := ⟨fun {base M P H σ s fp Q Q'} rs h q => by
  refine a.run rs h fun v H1 r1 s1 G rs1 k1 e1 n1 ⟨c, eb, h1⟩ => ?_
  subst eb
  refine ⟨c, e1.1.bl_inv, ?_⟩
  cases c with
  | false => exact b.then rs1 h1 k1 q
  | true => exact q _ _ (.d (.bool true)) _ [] rs1 k1 ⟨.bl _, rfl⟩ (fun a z => nomatch z) h1⟩
instance snd_notV [a : SndE K Ps ta fa] : SndE K Ps (tNotV ta) (aNotV fa) := ⟨fun {base M P H σ s fp Q Q'} rs h q => by
  refine a.run rs h fun v H1 r1 s1 G rs1 k1 e1 n1 ⟨c, eb, h1⟩ => ?_
  subst eb
  exact ⟨c, e1.1.bl_inv, q _ _ (.d (.bool (!c))) _ [] rs1 k1 ⟨.bl _, rfl⟩ (fun a z => nomatch z) h1⟩⟩
def aIfE {K : PySem.W.Frag} (c : AT K) (a b : AE K) : AE K := fun s Q => c s fun k s1 => if k = true then a s1 Q else b s1 Q
instance snd_ifE [c : SndT K Ps tt ft] [a : SndE K Ps ta fa] [b : SndE K Ps tb fb] : SndE K Ps (tIf tt ta tb) (aIfE ft fa fb) := ⟨fun {base M P H σ s fp Q Q'} rs h q => by
  refine c.run rs h fun k H1 s1 rs1 k1 h1 => ?_
  cases k with
  | true => exact a.then rs1 h1 k1 q
  | false => exact b.then rs1 h1 k1 q⟩

/-! ### arguments, tuples, lists, builtins -/
def aNil {K : PySem.W.Frag} : AA K := fun s Q => Q [] s
def aCons {K : PySem.W.Frag} (a : AE K) (l : AA K) : AA K := fun s Q => a s fun r s1 => l s1 fun rs s2 => Q (r :: rs) s2
instance snd_nil : SndA K Ps tNil aNil := ⟨fun {base M P H σ s fp Q Q'} rs h q => q [] H [] s [] rs .refl .nil (fun G z => nomatch z) .nil h⟩
instance snd_cons [a : SndE K Ps te fe] [l : SndA K Ps tl fl] : SndA K Ps (tCons te tl) (aCons fe fl) := ⟨fun {base M P H σ s fp Q Q'} rs h q => by
  refine a.run rs h fun v H1 r1 s1 G rs1 k1 e1 n1 h1 => ?_
  refine l.run rs1 h1 fun vs H2 r2 s2 Gs rs2 k2 e2 n2 d2 h2 => ?_
  refine q (v :: vs) H2 (r1 :: r2) s2 (G :: Gs) rs2 (k1.trans k2) (.cons (e1.keep (fun a ha => rs.nof (n1 a ha)) k2) e2) (fun G' hG a ha => ?_) (.cons (fun G' hG a ha hb => ?_) d2) h2
  · rcases List.mem_cons.mp hG with rfl | hG
    · exact n1 a ha
    · exact k1.non a (n2 G' hG a ha)
  · exact e1.live a ha (n2 G' hG a hb)⟩
inductive Reps (K : PySem.W.Frag) (H : Hp) : List V → List (Cn K) → List (List Addr) → Prop
  | nil : Reps K H [] [] []
  | cons {v : V} {vs : List V} {c : Cn K} {cs : List (Cn K)} {L : List Addr} {Ls : List (List Addr)} : Rep K H v c L → Reps K H vs cs Ls → Reps K H (v :: vs) (c :: cs) (L :: Ls)
def valsOf {K : PySem.W.Frag} (s : Sto K) : List (RV K) → Option (List (Cn K))
  | [] => some []
  | r :: rs => match valOf s r, valsOf s rs with
    | some c, some cs => some (c :: cs)
    | _, _ => none
theorem RS.vals {base : Hp} {M : Addr → Prop} {P : Pn} {H : Hp} {σ : L2.St} {s : Sto K} {fp : Fp} (rs : RS K Ps base M P H σ s fp) : ∀ {vs : List V} {l : List (RV K)} {Gs : List (List Addr)} {cs : List (Cn K)}, RRs K H σ vs l Gs → valsOf s l = some cs → ∃ Ls, Reps K H vs cs Ls
  | _, _, _, _, .nil, e => by cases e; exact ⟨_, .nil⟩
  | _, _, _, _, .cons h t, e => by
    rw [valsOf] at e
    split at e
    · rename_i c cs e1 e2
      cases e
      obtain ⟨L, h1, _⟩ := rs.val h e1
      obtain ⟨Ls, h2⟩ := rs.vals t e2
      exact ⟨_, .cons h1 h2⟩
    · cases e
class CallD (K : PySem.W.Frag) (r : List V → Hp → VK → Prop) (g : outParam (List (Cn K) → (Cn K → Prop) → Prop)) : Prop where
  run : ∀ {H : Hp} {vs : List V} {cs : List (Cn K)} {Ls : List (List Addr)} {Q : VK} {Q' : Cn K → Prop}, Reps K H vs cs Ls → g cs Q' → (∀ v H' c G, Kp F0 H H' → Rep K H' v c G → (∀ a ∈ G, H a = none) → Q' c → Q v H') → r vs H Q
def aCB {K : PySem.W.Frag} (g : List (Cn K) → (Cn K → Prop) → Prop) (l : AA K) : AE K := fun s Q => l s fun rs s1 => ∃ cs, valsOf s1 rs = some cs ∧ g cs fun c => Q (resOf c) s1
instance snd_cb {r : List V → Hp → VK → Prop} {g : List (Cn K) → (Cn K → Prop) → Prop} [c : CallD K r g] [l : SndA K Ps tl fl] : SndE K Ps (tCB r tl) (aCB g fl) := ⟨fun {base M P H σ s fp Q Q'} rs h q => by
  refine l.run rs h fun vs H1 r1 s1 Gs rs1 k1 e1 n1 d1 ⟨cs, ec, h1⟩ => ?_
  obtain ⟨Ls, hL⟩ := rs1.vals e1 ec
  refine c.run hL h1 fun v H2 c2 G k2 hr hn h2 => ?_
  exact q v H2 (resOf c2) s1 G (rs1.ext k2) (k1.trans (k2.mono fun _ z => z.elim)) (rr_res hr) (fun a ha => k1.non a (hn a ha)) h2⟩
/-- data of the arguments -/
def datas {K : PySem.W.Frag} : List (RV K) → Option (List PyData)
  | [] => some []
  | .d x :: rs => (datas rs).map (x :: ·)
  | _ :: _ => none
theorem datas_fz {H : Hp} {σ : L2.St} : ∀ {vs : List V} {l : List (RV K)} {Gs : List (List Addr)} {ds : List PyData}, RRs K H σ vs l Gs → datas l = some ds → FzA K H vs ds
  | _, _, _, _, .nil, e => by cases e; exact .nil
  | _, .d x :: rs, _, _, .cons h t, e => by
    rw [datas] at e
    obtain ⟨ds, e1, rfl⟩ := Option.map_eq_some_iff.mp e
    exact .cons h.1 (datas_fz t e1)
  | _, .n c :: rs, _, _, .cons h t, e => by cases e
  | _, .s i :: rs, _, _, .cons h t, e => by cases e
def aTup {K : PySem.W.Frag} (l : AA K) : AE K := fun s Q => l s fun rs s1 => rs.length ≤ 1000 ∧ ∃ ds, datas rs = some ds ∧ Q (.d (.tuple ds)) s1
def aLst {K : PySem.W.Frag} (l : AA K) : AE K := fun s Q => l s fun rs s1 => rs.length ≤ 1000 ∧ ∃ ds, datas rs = some ds ∧ Q (.n (.l ds)) s1
theorem RRs.len {H : Hp} {σ : L2.St} : ∀ {vs : List V} {l : List (RV K)} {Gs : List (List Addr)}, RRs K H σ vs l Gs → vs.length = l.length
  | _, _, _, .nil => rfl
  | _, _, _, .cons _ t => congrArg (· + 1) t.len
instance snd_tup [l : SndA K Ps tl fl] : SndE K Ps (tTup tl) (aTup fl) := ⟨fun {base M P H σ s fp Q Q'} rs h q => by
  refine l.run rs h fun vs H1 r1 s1 Gs rs1 k1 e1 n1 d1 ⟨hl, ds, ed, h1⟩ => ?_
  have hz := datas_fz e1 ed
  refine ⟨by rw [e1.len]; exact Nat.le_of_lt (small1000 hl), fun p hp => ?_⟩
  have k2 : Kp F0 H1 (upd H1 p (.tup vs)) := .new hp _
  exact q _ _ (.d (.tuple ds)) s1 [] (rs1.ext k2) (k1.trans (k2.mono fun _ z => z.elim)) ⟨.tup (SqT.of upd_same) (hz.keep k2), rfl⟩ (fun a z => nomatch z) h1⟩
instance snd_lst [l : SndA K Ps tl fl] : SndE K Ps (tLst tl) (aLst fl) := ⟨fun {base M P H σ s fp Q Q'} rs h q => by
  refine l.run rs h fun vs H1 r1 s1 Gs rs1 k1 e1 n1 d1 ⟨hl, ds, ed, h1⟩ => ?_
  have hz := datas_fz e1 ed
  refine ⟨by rw [e1.len]; exact Nat.le_of_lt (small1000 hl), fun p hp => ?_⟩
  have k2 : Kp F0 H1 (upd H1 p (.lst vs)) := .new hp _
  refine q _ _ (.n (.l ds)) s1 [p] (rs1.ext k2) (k1.trans (k2.mono fun _ z => z.elim)) ⟨p, vs, rfl, rfl, upd_same, hz.keep k2⟩ (fun a ha => ?_) h1
  rw [List.mem_singleton.mp ha]
  exact k1.non p hp⟩
end
end Fw


namespace Fw
open PySem PySem.Spec PyProof.Rows L2 GxR Gx Mint

/-! ### statements -/
structure AEnds (K : PySem.W.Frag) where
  nx : Sto K → Prop
  rt : Cn K → Sto K → Prop
  bk : Sto K → Prop := fun _ => False
  ct : Sto K → Prop := fun _ => False
abbrev AS (K : PySem.W.Frag) := AEnds K → Sto K → Prop
abbrev AG (K : PySem.W.Frag) := RV K → Sto K → (Sto K → Prop) → Prop
structure DR (K : PySem.W.Frag) (Ps : List Addr) (base : Hp) (M : Addr → Prop) (P : Pn) (D : Ends) (D' : AEnds K) : Prop where
  nx : ∀ {H σ s fp}, RS K Ps base M P H σ s fp → D'.nx s → D.nx σ H
  bk : ∀ {H σ s fp}, RS K Ps base M P H σ s fp → D'.bk s → D.bk σ H
  ct : ∀ {H σ s fp}, RS K Ps base M P H σ s fp → D'.ct s → D.ct σ H
  rt : ∀ {H σ s fp v c G}, RS K Ps base M P H σ s fp → Rep K H v c G → (∀ a ∈ G, ¬ inF fp a ∧ (M a ∨ base a = none)) → D'.rt c s → D.rt v H
class SndS (K : PySem.W.Frag) (Ps : List Addr) (t : TS) (f : outParam (AS K)) : Prop where
  run : ∀ {base : Hp} {M : Addr → Prop} {P : Pn} {H : Hp} {σ : L2.St} {s : Sto K} {fp : Fp} {D : Ends} {D' : AEnds K}, RS K Ps base M P H σ s fp → f D' s → DR K Ps base M P D D' → t D σ H
class SndG (K : PySem.W.Frag) (Ps : List Addr) (g : TG) (f : outParam (AG K)) (ls : outParam (List Nat)) : Prop where
  run : ∀ {base : Hp} {M : Addr → Prop} {P : Pn} {H : Hp} {σ : L2.St} {s : Sto K} {fp : Fp} {v : V} {r : RV K} {G : List Addr} {Q : L2.St → Hp → Prop} {Q' : Sto K → Prop}, RS K Ps base M P H σ s fp → RR K H σ v r G → (∀ a ∈ G, ¬ inF fp a ∧ (M a ∨ base a = none)) →
    f r s Q' → (∀ σ' s' fp', RS K Ps base M P H σ' s' fp' → (σ'.length = σ.length ∧ ∀ j, j ∉ ls → σ'[j]? = σ[j]? ∧ fp' j = fp j) → ((∃ d, r = .d d) → ∀ j ∈ ls, fp' j = []) → Q' s' → Q σ' H) → g v σ H Q
class SndGs (K : PySem.W.Frag) (Ps : List Addr) (g : TGs) (f : outParam (List PyData → Sto K → (Sto K → Prop) → Prop)) (ls : outParam (List Nat)) : Prop where
  run : ∀ {base : Hp} {M : Addr → Prop} {P : Pn} {H : Hp} {σ : L2.St} {s : Sto K} {fp : Fp} {vs : List V} {ds : List PyData} {Q : L2.St → Hp → Prop} {Q' : Sto K → Prop}, RS K Ps base M P H σ s fp → FzA K H vs ds →
    f ds s Q' → (∀ σ' s' fp', RS K Ps base M P H σ' s' fp' → (σ'.length = σ.length ∧ ∀ j, j ∉ ls → σ'[j]? = σ[j]? ∧ fp' j = fp j) → (∀ j ∈ ls, fp' j = []) → Q' s' → Q σ' H) → g vs σ H Q
section
variable {K : PySem.W.Frag} {Ps : List Addr} {te ta tb tc : TE} {fe fa fb fc : AE K} {tt : TT} {ft : AT K} {tl : TA} {fl : AA K} {ts tu : TS} {fs fu : AS K} {g : TG} {ag : AG K}

/-! ### stores -/
def canSet {K : PySem.W.Frag} (s : Sto K) (i : Nat) : Bool := match s[i]? with
  | some .e => true
  | some (.f _) => true
  | _ => false
theorem cnAt_set {s : Sto K} {i j : Nat} {c : SC K} (h : i < s.length) : cnAt (s.set i c) j = if i = j then c.cn else cnAt s j := by
  unfold cnAt
  rw [List.getElem?_set]
  by_cases e : i = j
  · subst e
    rw [if_pos rfl, if_pos rfl, if_pos h]
  · rw [if_neg e, if_neg e]
theorem canSet_lt {s : Sto K} {i : Nat} (h : canSet s i = true) : i < s.length := by
  unfold canSet at h
  split at h
  · rename_i e; exact (List.getElem?_eq_some_iff.mp e).1
  · rename_i e; exact (List.getElem?_eq_some_iff.mp e).1
  · cases h
theorem canSet_io {s : Sto K} {i : Nat} (h : canSet s i = true) : ¬ isIo s i := by
  rintro ⟨c, e⟩
  unfold canSet at h
  rw [e] at h
  cases h
/-- a slot gets a new content -/
theorem RS.put {base H : Hp} {M : Addr → Prop} {P : Pn} {σ : L2.St} {s : Sto K} {fp : Fp} (r : RS K Ps base M P H σ s fp) {i : Nat} {v : V} {c : Cn K} {G : List Addr} (hc : canSet s i = true) (hr : Rep K H v c G) (hG : ∀ a ∈ G, ¬ inF fp a ∧ (M a ∨ base a = none)) :
    RS K Ps base M P H (σ.set i (some v)) (s.set i (.f c)) (fun j => if i = j then G else fp j) := by
  have hl := canSet_lt hc
  have hn : P i = none := by
    cases e : P i with
    | none => rfl
    | some p =>
      obtain ⟨v', L⟩ := p
      exact absurd (r.io i v' L e).1 (canSet_io hc)
  have io_ne : ∀ j, isIo (s.set i (.f c)) j → i ≠ j ∧ isIo s j := fun j ⟨c', e⟩ => by
    rw [List.getElem?_set] at e
    by_cases z : i = j
    · rw [if_pos z] at e
      split at e
      · cases e
      · cases e
    · rw [if_neg z] at e
      exact ⟨z, c', e⟩
  refine ⟨by rw [List.length_set, List.length_set]; exact r.len, fun j c' e => ?_, fun j e => ?_, fun j k a h1 h2 => ?_, fun j a h => ?_, fun j v' L e => ?_, fun j h => r.ni j (io_ne j h).2, r.kp, r.tb, r.ml⟩
  · rw [cnAt_set hl] at e
    by_cases z : i = j
    · subst z
      rw [if_pos rfl] at e
      cases e
      refine ⟨v, by rw [List.getElem?_set_self (by rw [r.len]; exact hl)], ?_⟩
      show Rep K H v c (if i = i then G else fp i)
      rw [if_pos rfl]
      exact hr
    · rw [if_neg z] at e
      obtain ⟨w, h1, h2⟩ := r.cn j c' e
      refine ⟨w, by rw [List.getElem?_set_ne z]; exact h1, ?_⟩
      show Rep K H w c' (if i = j then G else fp j)
      rw [if_neg z]
      exact h2
  · rw [cnAt_set hl] at e
    by_cases z : i = j
    · rw [if_pos z] at e
      cases e
    · rw [if_neg z] at e
      show (if i = j then G else fp j) = []
      rw [if_neg z]
      exact r.em j e
  · have h1' : a ∈ (if i = j then G else fp j) := h1
    have h2' : a ∈ (if i = k then G else fp k) := h2
    by_cases z : i = j <;> by_cases y : i = k
    · exact z.symm.trans y
    · rw [if_pos z] at h1'
      rw [if_neg y] at h2'
      exact absurd ⟨k, h2'⟩ (hG a h1').1
    · rw [if_neg z] at h1'
      rw [if_pos y] at h2'
      exact absurd ⟨j, h1'⟩ (hG a h2').1
    · rw [if_neg z] at h1'
      rw [if_neg y] at h2'
      exact r.dj j k a h1' h2'
  · have h' : a ∈ (if i = j then G else fp j) := h
    by_cases z : i = j
    · rw [if_pos z] at h'
      exact (hG a h').2
    · rw [if_neg z] at h'
      exact r.fr j a h'
  · obtain ⟨⟨c', q1⟩, q2, q3⟩ := r.io j v' L e
    have z : i ≠ j := fun z => by
      subst z
      rw [hn] at e
      cases e
    refine ⟨⟨c', by rw [List.getElem?_set_ne z]; exact q1⟩, by rw [List.getElem?_set_ne z]; exact q2, ?_⟩
    show (if i = j then G else fp j) = L
    rw [if_neg z]
    exact q3
/-- a slot's content is handed out -/
theorem RS.drop {base H : Hp} {M : Addr → Prop} {P : Pn} {σ : L2.St} {s : Sto K} {fp : Fp} (r : RS K Ps base M P H σ s fp) {i : Nat} (hc : canSet s i = true) :
    RS K Ps base M P H σ (s.set i .e) (fun j => if i = j then [] else fp j) := by
  have hl := canSet_lt hc
  have hn : P i = none := by
    cases e : P i with
    | none => rfl
    | some p =>
      obtain ⟨v', L⟩ := p
      exact absurd (r.io i v' L e).1 (canSet_io hc)
  have sub : ∀ j a, a ∈ (if i = j then [] else fp j) → a ∈ fp j := fun j a h => by
    by_cases z : i = j
    · rw [if_pos z] at h; cases h
    · rw [if_neg z] at h; exact h
  refine ⟨by rw [List.length_set]; exact r.len, fun j c' e => ?_, fun j e => ?_, fun j k a h1 h2 => r.dj j k a (sub j a h1) (sub k a h2), fun j a h => r.fr j a (sub j a h), fun j v' L e => ?_, fun j ⟨c', e⟩ => ?_, r.kp, r.tb, r.ml⟩
  · rw [cnAt_set hl] at e
    by_cases z : i = j
    · rw [if_pos z] at e
      cases e
    · rw [if_neg z] at e
      obtain ⟨w, h1, h2⟩ := r.cn j c' e
      refine ⟨w, h1, ?_⟩
      show Rep K H w c' (if i = j then [] else fp j)
      rw [if_neg z]
      exact h2
  · rw [cnAt_set hl] at e
    show (if i = j then [] else fp j) = []
    by_cases z : i = j
    · rw [if_pos z]
    · rw [if_neg z] at e ⊢
      exact r.em j e
  · obtain ⟨⟨c', q1⟩, q2, q3⟩ := r.io j v' L e
    have z : i ≠ j := fun z => by
      subst z
      rw [hn] at e
      cases e
    refine ⟨⟨c', by rw [List.getElem?_set_ne z]; exact q1⟩, q2, ?_⟩
    show (if i = j then [] else fp j) = L
    rw [if_neg z]
    exact q3
  · rw [List.getElem?_set] at e
    by_cases z : i = j
    · rw [if_pos z] at e
      split at e
      · cases e
      · cases e
    · rw [if_neg z] at e
      exact r.ni j ⟨c', e⟩

/-! ### small statements -/
def aNext {K : PySem.W.Frag} : AS K := fun D s => D.nx s
def aSeq {K : PySem.W.Frag} (a b : AS K) : AS K := fun D s => a { D with nx := b D } s
instance snd_next : SndS K Ps tNext aNext := ⟨fun r h d => d.nx r h⟩
instance snd_seq [a : SndS K Ps ts fs] [b : SndS K Ps tu fu] : SndS K Ps (tSeq ts tu) (aSeq fs fu) := ⟨fun r h d => a.run r h ⟨fun r h => b.run r h d, d.bk, d.ct, d.rt⟩⟩
def aBreak {K : PySem.W.Frag} : AS K := fun D s => D.bk s
def aCont {K : PySem.W.Frag} : AS K := fun D s => D.ct s
instance snd_break : SndS K Ps tBreak aBreak := ⟨fun r h d => d.bk r h⟩
instance snd_cont : SndS K Ps tCont aCont := ⟨fun r h d => d.ct r h⟩
def aNever {K : PySem.W.Frag} : AS K := fun _ _ => False
instance snd_never : SndS K Ps tNever aNever := ⟨fun r h d => h.elim⟩
def aDrop {K : PySem.W.Frag} (a : AE K) : AS K := fun D s => a s fun _ s1 => D.nx s1
instance snd_drop [a : SndE K Ps te fe] : SndS K Ps (tDrop te) (aDrop fe) := ⟨fun r h d => a.run r h fun v H' r' s' G r1 k e n h => d.nx r1 h⟩
/-- what is returned: data, something new, or a local object -/
def retOf {K : PySem.W.Frag} (s : Sto K) : RV K → Option (Cn K × Sto K)
  | .d x => some (.d x, s)
  | .n c => some (c, s)
  | .s i => if canSet s i = true then (cnAt s i).map fun c => (c, s.set i .e) else none
def aRet {K : PySem.W.Frag} (a : AE K) : AS K := fun D s => a s fun r s1 => ∃ p, retOf s1 r = some p ∧ D.rt p.1 p.2
instance snd_ret [a : SndE K Ps te fe] : SndS K Ps (tRet te) (aRet fe) := ⟨fun {base M P H σ s fp D D'} rs h d => by
  refine a.run rs h fun v H1 r s1 G r1 k e n ⟨p, e1, h1⟩ => ?_
  cases r with
  | d x => cases e1; exact d.rt r1 (c := .d x) (G := []) ⟨e.1, rfl⟩ (fun a z => nomatch z) h1
  | n c => cases e1; exact d.rt r1 e (fun a ha => ⟨rs.nof (n a ha), .inr (rs.kp.non a (n a ha))⟩) h1
  | s i =>
    obtain ⟨e2, _⟩ := e
    rw [retOf] at e1
    split at e1
    · rename_i hc
      obtain ⟨c, e3, rfl⟩ := Option.map_eq_some_iff.mp e1
      obtain ⟨w, q1, q2⟩ := r1.cn i c e3
      rw [e2] at q1
      cases q1
      refine d.rt (r1.drop hc) q2 (fun a ha => ⟨fun ⟨j, hj⟩ => ?_, r1.fr i a ha⟩) h1
      have hj' : a ∈ (if i = j then [] else fp j) := hj
      by_cases z : i = j
      · rw [if_pos z] at hj'; cases hj'
      · rw [if_neg z] at hj'; exact z (r1.dj i j a ha hj')
    · cases e1⟩
def aRetN {K : PySem.W.Frag} : AS K := fun D s => D.rt (.d .none) s
instance snd_retN : SndS K Ps tRetN aRetN := ⟨fun r h d => d.rt (c := .d .none) (G := []) r ⟨.non, rfl⟩ (fun a z => nomatch z) h⟩
def aIfS {K : PySem.W.Frag} (c : AT K) (a b : AS K) : AS K := fun D s => c s fun k s1 => if k = true then a D s1 else b D s1
instance snd_ifS [c : SndT K Ps tt ft] [a : SndS K Ps ts fs] [b : SndS K Ps tu fu] : SndS K Ps (tIfS tt ts tu) (aIfS ft fs fu) := ⟨fun r h d => by
  refine c.run r h fun k H1 s1 r1 k1 h1 => ?_
  cases k with
  | true => exact a.run r1 h1 d
  | false => exact b.run r1 h1 d⟩

/-! ### targets -/
def aName {K : PySem.W.Frag} (i : Nat) : AG K := fun r s Q => match r with
  | .d x => canSet s i = true ∧ Q (s.set i (.f (.d x)))
  | .n c => canSet s i = true ∧ Q (s.set i (.f c))
  | .s _ => False
theorem put_out {σ : L2.St} {i : Nat} {v : V} {fp : Fp} {G : List Addr} : (σ.set i (some v)).length = σ.length ∧ ∀ j, j ∉ [i] → (σ.set i (some v))[j]? = σ[j]? ∧ (fun j => if i = j then G else fp j) j = fp j := by
  refine ⟨List.length_set .., fun j h => ?_⟩
  have h : i ≠ j := fun z => h (by rw [z]; exact List.mem_singleton.mpr rfl)
  exact ⟨List.getElem?_set_ne h, if_neg h⟩
instance snd_name (i : Nat) : SndG K Ps (gName i) (aName i) [i] := ⟨fun {base M P H σ s fp v r G Q Q'} rs e n h q => by
  cases r with
  | d x => exact q _ _ _ (rs.put (c := .d x) (G := []) h.1 ⟨e.1, rfl⟩ (fun a z => nomatch z)) put_out (fun _ j hj => by rw [List.mem_singleton.mp hj]; exact if_pos rfl) h.2
  | n c => exact q _ _ _ (rs.put h.1 e n) put_out (fun ⟨d, e⟩ => by cases e) h.2
  | s j => exact h.elim⟩
def aGNil {K : PySem.W.Frag} : List PyData → Sto K → (Sto K → Prop) → Prop := fun ds s Q => ds = [] ∧ Q s
def aGCons {K : PySem.W.Frag} (g : AG K) (gs : List PyData → Sto K → (Sto K → Prop) → Prop) : List PyData → Sto K → (Sto K → Prop) → Prop := fun ds s Q => ∃ d r, ds = d :: r ∧ g (.d d) s fun s1 => gs r s1 Q
instance snd_gnil : SndGs K Ps gNil aGNil [] := ⟨fun {base M P H σ s fp vs ds Q Q'} rs e h q => by
  obtain ⟨rfl, h⟩ := h
  cases e
  exact ⟨rfl, q _ _ _ rs ⟨rfl, fun j _ => ⟨rfl, rfl⟩⟩ (fun j hj => nomatch hj) h⟩⟩
instance snd_gcons {gs : TGs} {ags : List PyData → Sto K → (Sto K → Prop) → Prop} {l1 l2 : List Nat} [a : SndG K Ps g ag l1] [b : SndGs K Ps gs ags l2] : SndGs K Ps (gCons g gs) (aGCons ag ags) (l1 ++ l2) := ⟨fun {base M P H σ s fp vs ds Q Q'} rs e h q => by
  obtain ⟨d, r, rfl, h⟩ := h
  cases e with
  | @cons v vs _ _ e t =>
    refine ⟨v, vs, rfl, a.run (r := .d d) (G := []) rs ⟨e, rfl⟩ (fun a z => nomatch z) h fun σ1 s1 fp1 rs1 o1 p1 h1 => b.run rs1 t h1 fun σ2 s2 fp2 rs2 o2 p2 h2 => q σ2 s2 fp2 rs2 ⟨o2.1.trans o1.1, fun j hj => ?_⟩ (fun j hj => ?_) h2⟩
    · rw [List.mem_append, not_or] at hj
      exact ⟨(o2.2 j hj.2).1.trans (o1.2 j hj.1).1, (o2.2 j hj.2).2.trans (o1.2 j hj.1).2⟩
    · by_cases z : j ∈ l2
      · exact p2 j z
      · rcases List.mem_append.mp hj with y | y
        · exact (o2.2 j z).2.trans (p1 ⟨d, rfl⟩ j y)
        · exact absurd y z⟩
def aGTup {K : PySem.W.Frag} (n : Nat) (gs : List PyData → Sto K → (Sto K → Prop) → Prop) : AG K := fun r s Q => ∃ ds, r = .d (.tuple ds) ∧ ds.length = n ∧ gs ds s Q
instance snd_gtup {n : Nat} {gs : TGs} {ags : List PyData → Sto K → (Sto K → Prop) → Prop} {ls : List Nat} [b : SndGs K Ps gs ags ls] : SndG K Ps (L2.gTup K n gs) (aGTup n ags) ls := ⟨fun {base M P H σ s fp v r G Q Q'} rs e hn h q => by
  obtain ⟨ds, rfl, rfl, h⟩ := h
  obtain ⟨a, vs, rfl, hS, hA⟩ := e.1.tup_inv
  exact ⟨a, vs, rfl, hS, hA.len, b.run rs hA h fun σ2 s2 fp2 rs2 o2 p2 h2 => q σ2 s2 fp2 rs2 o2 (fun _ => p2) h2⟩⟩
def aAsg {K : PySem.W.Frag} (a : AE K) (g : AG K) : AS K := fun D s => a s fun r s1 => g r s1 D.nx
instance snd_asg {ls : List Nat} [a : SndE K Ps te fe] [b : SndG K Ps g ag ls] : SndS K Ps (tAsg te g) (aAsg fe ag) := ⟨fun {base M P H σ s fp D D'} rs h d =>
  a.run rs h fun v H1 r s1 G r1 k e n h1 => b.run r1 e (fun a ha => ⟨rs.nof (n a ha), .inr (rs.kp.non a (n a ha))⟩) h1 fun σ' s' fp' r2 _ _ h2 => d.nx r2 h2⟩
def aAug {K : PySem.W.Frag} (i : Nat) (a : AE K) (g : D2) : AS K := fun D s => ∃ x, cnAt s i = some (.d x) ∧ a s fun r s1 => ∃ y, r = .d y ∧ g x y fun z => canSet s1 i = true ∧ D.nx (s1.set i (.f (.d z)))
instance snd_aug {i : Nat} (f : Int → Int → Int) [a : SndE K Ps te fe] : SndS K Ps (tAug i te (ipI f)) (aAug i fe (dII f)) := ⟨fun {base M P H σ s fp D D'} rs h d => by
  obtain ⟨x, e1, h⟩ := h
  obtain ⟨v, e2, e3⟩ := rs.cn i _ e1
  refine ⟨v, e2, a.run rs h fun w H1 r s1 G r1 k e n ⟨y, ey, i', j', ei, ej, hc, hq⟩ => ?_⟩
  subst ey ei ej
  have e3' := (e3.1.keep k).int_inv
  exact ⟨i', j', e3', e.1.int_inv, d.nx (r1.put (c := .d (.int (f i' j'))) (G := []) hc ⟨.int _, rfl⟩ (fun a z => nomatch z)) hq⟩⟩

/-! ### for -/
/-- what is walked: data, one by one; the store must keep gd; free: the store plays no part in it -/
abbrev AI (K : PySem.W.Frag) := Sto K → (List PyData → (Sto K → Prop) → Bool → Sto K → Prop) → Prop
structure Walks (K : PySem.W.Frag) (J : It) (H : Hp) (ds : List PyData) : Prop where
  go : ∀ {i d}, ds[i]? = some d → J.go i H ∧ ∀ v H', J.yld i H v H' → Kp F0 H H' ∧ Fz K H' v d
  stop : J.stop ds.length H
class SndI (K : PySem.W.Frag) (Ps : List Addr) (wi : TI) (f : outParam (AI K)) : Prop where
  run : ∀ {base : Hp} {M : Addr → Prop} {P : Pn} {H : Hp} {σ : L2.St} {s : Sto K} {fp : Fp} {R : It → Hp → Prop} {R' : List PyData → (Sto K → Prop) → Bool → Sto K → Prop}, RS K Ps base M P H σ s fp → f s R' →
    (∀ J H' ds gd fr s', RS K Ps base M P H' σ s' fp → Kp (inF fp) H H' → (∀ {H2 σ2 s2 fp2}, RS K Ps H' (fun a => M a ∨ inF fp a) P H2 σ2 s2 fp2 → (fr = true ∨ (σ2 = σ ∧ fp2 = fp)) → gd s2 → Walks K J H2 ds) → R' ds gd fr s' → R J H') → wi σ H R
def forF {K : PySem.W.Frag} (gd : Sto K → Prop) (g : AG K) (b : AS K) (D : AEnds K) : List PyData → Sto K → Prop
  | [], s => gd s ∧ D.nx s
  | d :: ds, s => gd s ∧ g (.d d) s fun s1 => b { D with nx := forF gd g b D ds, ct := forF gd g b D ds, bk := D.nx } s1
def aFor {K : PySem.W.Frag} (i : AI K) (g : AG K) (b : AS K) : AS K := fun D s => i s fun ds gd fr s1 => fr = true ∧ forF gd g b D ds s1
instance snd_for {wi : TI} {fi : AI K} {ls : List Nat} [a : SndI K Ps wi fi] [b : SndG K Ps g ag ls] [c : SndS K Ps ts fs] : SndS K Ps (tFor wi g ts) (aFor fi ag fs) := ⟨fun {base M P H σ s fp D D'} rs h d => by
  refine a.run rs h fun J H1 ds gd fr s1 rs1 k1 wk ⟨hfr, h1⟩ => ?_
  refine ⟨fun i m σ2 H2 => m = ds.length - i ∧ i ≤ ds.length ∧ ∃ s2 fp2, RS K Ps H1 (fun a => M a ∨ inF fp a) P H2 σ2 s2 fp2 ∧ forF gd ag fs D' (ds.drop i) s2, ⟨ds.length, by omega, Nat.zero_le _, s1, fp, rs1.rebase, h1⟩, ?_⟩
  rintro i m σ2 H2 ⟨rfl, hi, s2, fp2, rs2, h2⟩
  by_cases hlt : i < ds.length
  · have e : ds.drop i = ds[i] :: ds.drop (i + 1) := List.drop_eq_getElem_cons hlt
    rw [e, forF] at h2
    obtain ⟨hg, h2⟩ := h2
    obtain ⟨w1, w2⟩ := (wk rs2 (.inl hfr) hg).go (List.getElem?_eq_getElem hlt)
    refine .inr ⟨w1, fun σ3 H3 => ∃ s3 fp3, RS K Ps H1 (fun a => M a ∨ inF fp a) P H3 σ3 s3 fp3 ∧ forF gd ag fs D' (ds.drop (i + 1)) s3, fun σ3 H3 ⟨s3, fp3, rs3, h3⟩ => ⟨ds.length - (i + 1), by omega, rfl, hlt, s3, fp3, rs3, h3⟩, fun x H3 y => ?_⟩
    obtain ⟨k3, z3⟩ := w2 x H3 y
    refine b.run (r := .d ds[i]) (G := []) (rs2.ext k3) ⟨z3, rfl⟩ (fun a z => nomatch z) h2 fun σ4 s4 fp4 rs4 _ _ h4 => ?_
    exact c.run rs4 h4 ⟨fun r q => ⟨_, _, r, q⟩, fun r q => d.nx (rs1.unbase r) q, fun r q => ⟨_, _, r, q⟩, fun r e n q => d.rt (rs1.unbase r) e (fun a ha => ⟨(n a ha).1, by
      rcases (n a ha).2 with (z | ⟨j, z⟩) | z
      · exact .inl z
      · exact rs1.fr j a z
      · exact .inr (rs1.kp.non a z)⟩) q⟩
  · have e : i = ds.length := by omega
    subst e
    rw [List.drop_length, forF] at h2
    exact .inl ⟨(wk rs2 (.inl hfr) h2.1).stop, d.nx (rs1.unbase rs2) h2.2⟩⟩
/-- results without a slot -/
def noSlot {K : PySem.W.Frag} : List (RV K) → Bool
  | [] => true
  | .s _ :: _ => false
  | _ :: rs => noSlot rs
end
end Fw


namespace Fw
open PySem PySem.Spec PyProof.Rows L2 GxR Gx Mint

/-! ### defs -/
abbrev GF (K : PySem.W.Frag) := List (Cn K) → (Cn K → List (Cn K) → Prop) → Prop
def inL (Ls : List (List Addr)) : Addr → Prop := fun a => ∃ L ∈ Ls, a ∈ L
def spA (K : PySem.W.Frag) (Ps : List Addr) (g : GF K) : Sp := fun vs H Q _ => ∃ (cs : List (Cn K)) (Ls : List (List Addr)) (Q' : Cn K → List (Cn K) → Prop), Reps K H vs cs Ls ∧ DjL Ls ∧ Tabs Ps H ∧ g cs Q' ∧
  ∀ v H' c cs' G, Kp (inL Ls) H H' → Reps K H' vs cs' Ls → Rep K H' v c G → (∀ a ∈ G, H a = none) → Q' c cs' → Q v H'
section
variable {K : PySem.W.Frag} {Ps : List Addr} {te ta tb tc : TE} {fe fa fb fc : AE K} {tl : TA} {fl : AA K}
theorem Reps.len1 {H : Hp} : ∀ {vs : List V} {cs : List (Cn K)} {Ls : List (List Addr)}, Reps K H vs cs Ls → vs.length = cs.length
  | _, _, _, .nil => rfl
  | _, _, _, .cons _ t => congrArg (· + 1) t.len1
theorem Reps.len2 {H : Hp} : ∀ {vs : List V} {cs : List (Cn K)} {Ls : List (List Addr)}, Reps K H vs cs Ls → Ls.length = cs.length
  | _, _, _, .nil => rfl
  | _, _, _, .cons _ t => congrArg (· + 1) t.len2
theorem Reps.get {H : Hp} : ∀ {vs : List V} {cs : List (Cn K)} {Ls : List (List Addr)} {i : Nat} {c : Cn K}, Reps K H vs cs Ls → cs[i]? = some c → ∃ v L, vs[i]? = some v ∧ Ls[i]? = some L ∧ Rep K H v c L
  | _, _, _, _, _, .nil, e => by simp at e
  | _, _, _, 0, _, .cons h _, e => by simp at e; subst e; exact ⟨_, _, rfl, rfl, h⟩
  | _, _, _, i + 1, _, .cons _ t, e => by
    obtain ⟨v, L, h1, h2, h3⟩ := Reps.get (i := i) t (by simpa using e)
    exact ⟨v, L, by simpa using h1, by simpa using h2, h3⟩
theorem Reps.live {H : Hp} : ∀ {vs : List V} {cs : List (Cn K)} {Ls : List (List Addr)}, Reps K H vs cs Ls → ∀ a, inL Ls a → H a ≠ none
  | _, _, _, .nil, a, ⟨L, h, _⟩ => nomatch h
  | _, _, _, .cons r t, a, ⟨L, h, h2⟩ => by
    rcases List.mem_cons.mp h with rfl | h
    · exact r.live a h2
    · exact t.live a ⟨L, h, h2⟩
/-- a slot's content, by its kind -/
def SC.with {K : PySem.W.Frag} (c : Cn K) : SC K → SC K
  | .e => .e
  | .f _ => .f c
  | .io _ => .io c
def setC {K : PySem.W.Frag} (s : Sto K) (i : Nat) (c : Cn K) : Sto K := s.modify i (SC.with c)
def putBack {K : PySem.W.Frag} : Sto K → List (RV K) → List (Cn K) → Sto K
  | s, .s i :: rs, c :: cs => putBack (setC s i c) rs cs
  | s, _ :: rs, _ :: cs => putBack s rs cs
  | s, _, _ => s
theorem setC_len {s : Sto K} {i : Nat} {c : Cn K} : (setC s i c).length = s.length := by unfold setC; exact List.length_modify ..
theorem setC_get {s : Sto K} {i j : Nat} {c : Cn K} : (setC s i c)[j]? = if i = j then (s[j]?).map (SC.with c) else s[j]? := by
  unfold setC
  rw [List.getElem?_modify]
  by_cases e : i = j
  · subst e
    cases s[i]? <;> simp
  · cases s[j]? <;> simp [e]
theorem setC_io {s : Sto K} {i j : Nat} {c : Cn K} : isIo (setC s i c) j ↔ isIo s j := by
  unfold isIo
  rw [setC_get]
  by_cases e : i = j
  · rw [if_pos e]
    cases h : s[j]? with
    | none => simp
    | some x => cases x <;> simp [SC.with]
  · rw [if_neg e]
theorem setC_cn {s : Sto K} {i j : Nat} {c : Cn K} : cnAt (setC s i c) j = if i = j then (cnAt s j).map (fun _ => c) else cnAt s j := by
  unfold cnAt
  rw [setC_get]
  by_cases e : i = j
  · rw [if_pos e, if_pos e]
    cases h : s[j]? with
    | none => rfl
    | some x => cases x <;> rfl
  · rw [if_neg e, if_neg e]
theorem putBack_len : ∀ {rs : List (RV K)} {cs : List (Cn K)} {s : Sto K}, (putBack s rs cs).length = s.length
  | [], cs, s => by cases cs <;> rfl
  | .s i :: rs, c :: cs, s => by rw [putBack, putBack_len, setC_len]
  | .d x :: rs, c :: cs, s => by rw [putBack, putBack_len]; exact fun _ z => nomatch z
  | .n x :: rs, c :: cs, s => by rw [putBack, putBack_len]; exact fun _ z => nomatch z
  | .s i :: rs, [], s => rfl
  | .d x :: rs, [], s => rfl
  | .n x :: rs, [], s => rfl
theorem putBack_io {j : Nat} : ∀ {rs : List (RV K)} {cs : List (Cn K)} {s : Sto K}, isIo (putBack s rs cs) j ↔ isIo s j
  | [], cs, s => by cases cs <;> exact Iff.rfl
  | .s i :: rs, c :: cs, s => by rw [putBack, putBack_io, setC_io]
  | .d x :: rs, c :: cs, s => by rw [putBack, putBack_io]; exact fun _ z => nomatch z
  | .n x :: rs, c :: cs, s => by rw [putBack, putBack_io]; exact fun _ z => nomatch z
  | .s i :: rs, [], s => Iff.rfl
  | .d x :: rs, [], s => Iff.rfl
  | .n x :: rs, [], s => Iff.rfl
theorem putBack_none {j : Nat} : ∀ {rs : List (RV K)} {cs : List (Cn K)} {s : Sto K}, cnAt (putBack s rs cs) j = none → cnAt s j = none
  | [], cs, s, h => by cases cs <;> exact h
  | .s i :: rs, c :: cs, s, h => by
    rw [putBack] at h
    have := putBack_none h
    rw [setC_cn] at this
    by_cases e : i = j
    · rw [if_pos e] at this
      exact Option.map_eq_none_iff.mp this
    · rw [if_neg e] at this
      exact this
  | .d x :: rs, c :: cs, s, h => by rw [putBack] at h; exact putBack_none h; exact fun _ z => nomatch z
  | .n x :: rs, c :: cs, s, h => by rw [putBack] at h; exact putBack_none h; exact fun _ z => nomatch z
  | .s i :: rs, [], s, h => h
  | .d x :: rs, [], s, h => h
  | .n x :: rs, [], s, h => h
def hasS {K : PySem.W.Frag} (j : Nat) : List (RV K) → Bool
  | [] => false
  | .s i :: rs => decide (i = j) || hasS j rs
  | _ :: rs => hasS j rs
/-- no slot twice -/
def nodupS {K : PySem.W.Frag} : List (RV K) → Bool
  | [] => true
  | .s i :: rs => !hasS i rs && nodupS rs
  | _ :: rs => nodupS rs
def lOf {K : PySem.W.Frag} (fp : Fp) : RV K → List Addr → List Addr
  | .s i, _ => fp i
  | _, G => G
theorem RS.val' {base : Hp} {M : Addr → Prop} {P : Pn} {H : Hp} {σ : L2.St} {s : Sto K} {fp : Fp} (rs : RS K Ps base M P H σ s fp) {v : V} {r : RV K} {G : List Addr} {c : Cn K} (h : RR K H σ v r G) (e : valOf s r = some c) : Rep K H v c (lOf fp r G) := by
  cases r with
  | d x => cases e; exact h
  | n c' => cases e; exact h
  | s i =>
    obtain ⟨w, e1, e2⟩ := rs.cn i c e
    rw [h.1] at e1
    cases e1
    exact e2
theorem RS.vals' {base : Hp} {M : Addr → Prop} {P : Pn} {H : Hp} {σ : L2.St} {s : Sto K} {fp : Fp} (rs : RS K Ps base M P H σ s fp) : ∀ {vs : List V} {l : List (RV K)} {Gs : List (List Addr)} {cs : List (Cn K)}, RRs K H σ vs l Gs → valsOf s l = some cs → Reps K H vs cs (List.zipWith (lOf fp) l Gs)
  | _, _, _, _, .nil, e => by cases e; exact .nil
  | _, _, _, _, .cons h t, e => by
    rw [valsOf] at e
    split at e
    · rename_i c cs e1 e2
      cases e
      exact .cons (rs.val' h e1) (rs.vals' t e2)
    · cases e
theorem mem_zipL {fp : Fp} : ∀ {vs : List V} {l : List (RV K)} {Gs : List (List Addr)} {H : Hp} {σ : L2.St} {L : List Addr} {a : Addr}, RRs K H σ vs l Gs → L ∈ List.zipWith (lOf fp) l Gs → a ∈ L → (∃ j, hasS j l = true ∧ a ∈ fp j) ∨ ∃ G ∈ Gs, a ∈ G
  | _, _, _, _, _, _, _, .nil, h, _ => nomatch h
  | _, r :: l, G :: Gs, H, σ, L, a, .cons e t, h, ha => by
    rcases List.mem_cons.mp h with rfl | h
    · cases r with
      | s i => exact .inl ⟨i, by simp [hasS], ha⟩
      | d x => exact .inr ⟨G, List.mem_cons_self, ha⟩
      | n x => exact .inr ⟨G, List.mem_cons_self, ha⟩
    · rcases mem_zipL t h ha with ⟨j, h1, h2⟩ | ⟨G', h1, h2⟩
      · exact .inl ⟨j, by cases r <;> simp [hasS, h1], h2⟩
      · exact .inr ⟨G', List.mem_cons_of_mem _ h1, h2⟩
theorem dj_zipL {fp : Fp} (dj : ∀ i j a, a ∈ fp i → a ∈ fp j → i = j) : ∀ {vs : List V} {l : List (RV K)} {Gs : List (List Addr)} {H : Hp} {σ : L2.St}, RRs K H σ vs l Gs → nodupS l = true → DjL Gs → (∀ G ∈ Gs, ∀ a ∈ G, ¬ inF fp a) → DjL (List.zipWith (lOf fp) l Gs)
  | _, _, _, _, _, .nil, _, _, _ => .nil
  | _, r :: l, G :: Gs, H, σ, .cons e t, n, d, f => by
    cases d with
    | cons d1 d2 =>
      have n2 : nodupS l = true := by cases r <;> simp [nodupS] at n <;> first | exact n | exact n.2
      refine .cons (fun L hL a ha hb => ?_) (dj_zipL dj t n2 d2 fun G hG => f G (List.mem_cons_of_mem _ hG))
      have hh := mem_zipL t hL hb
      have hnew : (∃ i, r = .s i ∧ a ∈ fp i) ∨ a ∈ G := by
        cases r with
        | s i => exact .inl ⟨i, rfl, ha⟩
        | d x => exact .inr ha
        | n x => exact .inr ha
      rcases hnew with ⟨i, rfl, hi⟩ | hG
      · rcases hh with ⟨j, h1, h2⟩ | ⟨G', h1, h2⟩
        · have := dj i j a hi h2
          subst this
          simp [nodupS, h1] at n
        · exact f G' (List.mem_cons_of_mem _ h1) a h2 ⟨i, hi⟩
      · rcases hh with ⟨j, h1, h2⟩ | ⟨G', h1, h2⟩
        · exact f G List.mem_cons_self a hG ⟨j, h2⟩
        · exact d1 G' h1 a hG h2
theorem putBack_cn {R : Nat → Cn K → Prop} : ∀ {rs : List (RV K)} {cs : List (Cn K)} {s : Sto K}, cs.length = rs.length → (∀ j c, cnAt s j = some c → hasS j rs = false → R j c) → (∀ (k j : Nat) (c : Cn K), rs[k]? = some (RV.s j) → cs[k]? = some c → R j c) → ∀ j c, cnAt (putBack s rs cs) j = some c → R j c
  | [], cs, s, _, h1, _, j, c, e => by cases cs <;> exact h1 j c e rfl
  | .s i :: rs, c0 :: cs, s, hl, h1, h2, j, c, e => by
    rw [putBack] at e
    refine putBack_cn (by simpa using hl) (fun j c e n => ?_) (fun k j c e1 e2 => h2 (k + 1) j c (by simpa using e1) (by simpa using e2)) j c e
    rw [setC_cn] at e
    by_cases z : i = j
    · rw [if_pos z] at e
      obtain ⟨_, _, rfl⟩ := Option.map_eq_some_iff.mp e
      subst z
      exact h2 0 i _ rfl rfl
    · rw [if_neg z] at e
      exact h1 j c e (by simp [hasS, z, n])
  | .d x :: rs, c0 :: cs, s, hl, h1, h2, j, c, e => by
    rw [putBack] at e
    · exact putBack_cn (by simpa using hl) (fun j c e n => h1 j c e (by simpa [hasS] using n)) (fun k j c e1 e2 => h2 (k + 1) j c (by simpa using e1) (by simpa using e2)) j c e
    · exact fun _ z => nomatch z
  | .n x :: rs, c0 :: cs, s, hl, h1, h2, j, c, e => by
    rw [putBack] at e
    · exact putBack_cn (by simpa using hl) (fun j c e n => h1 j c e (by simpa [hasS] using n)) (fun k j c e1 e2 => h2 (k + 1) j c (by simpa using e1) (by simpa using e2)) j c e
    · exact fun _ z => nomatch z
  | r :: rs, [], s, hl, _, _, _, _, _ => by simp at hl
theorem RRs.get {H : Hp} {σ : L2.St} : ∀ {vs : List V} {l : List (RV K)} {Gs : List (List Addr)} {k : Nat} {r : RV K}, RRs K H σ vs l Gs → l[k]? = some r → ∃ v G, vs[k]? = some v ∧ Gs[k]? = some G ∧ RR K H σ v r G
  | _, _, _, _, _, .nil, e => by simp at e
  | _, _, _, 0, _, .cons h _, e => by simp at e; subst e; exact ⟨_, _, rfl, rfl, h⟩
  | _, _, _, k + 1, _, .cons _ t, e => by
    obtain ⟨v, L, h1, h2, h3⟩ := RRs.get (k := k) t (by simpa using e)
    exact ⟨v, L, by simpa using h1, by simpa using h2, h3⟩
/-- a call of a def of the program -/
def aCall {K : PySem.W.Frag} (g : GF K) (l : AA K) : AE K := fun s Q => l s fun rs s1 => nodupS rs = true ∧ ∃ cs, valsOf s1 rs = some cs ∧ g cs fun c cs' => Q (resOf c) (putBack s1 rs cs')
instance snd_call {g : GF K} [l : SndA K Ps tl fl] : SndE K Ps (tCall (spA K Ps g) [] E0 tl) (aCall g fl) := ⟨fun {base M P H σ s fp Q Q'} rs h q => by
  refine l.run rs h fun vs H1 r1 s1 Gs rs1 k1 e1 n1 d1 ⟨hn, cs, ec, hg⟩ => ?_
  have hR := rs1.vals' e1 ec
  have hf : ∀ G ∈ Gs, ∀ a ∈ G, ¬ inF fp a := fun G hG a ha => rs.nof (n1 G hG a ha)
  refine ⟨cs, _, _, by rw [List.append_nil]; exact hR, dj_zipL rs1.dj e1 hn d1 hf, rs1.tb, hg, fun v H2 c cs' G k2 hR2 hr hnew h2 => ?_⟩
  rw [List.append_nil] at hR2
  have hlen : cs'.length = r1.length := by rw [← hR2.len1]; exact e1.len
  have inl : ∀ a, inL (List.zipWith (lOf fp) r1 Gs) a → inF fp a ∨ H a = none := fun a ⟨L, hL, ha⟩ => by
    rcases mem_zipL e1 hL ha with ⟨j, _, h⟩ | ⟨G, h1, h2⟩
    · exact .inl ⟨j, h⟩
    · exact .inr (n1 G h1 a h2)
  have inl0 : ∀ a, inL (List.zipWith (lOf fp) r1 Gs) a → M a ∨ base a = none := fun a h => by
    rcases inl a h with ⟨j, h⟩ | h
    · exact rs.fr j a h
    · exact .inr (rs.kp.non a h)
  refine q v H2 (resOf c) (putBack s1 r1 cs') G ?_ (k1.fresh k2 inl) (rr_res hr) (fun a ha => k1.non a (hnew a ha)) h2
  refine ⟨rs1.len.trans putBack_len.symm, ?_, fun i e => rs1.em i (putBack_none e), rs1.dj, rs1.fr, fun i v L e => ?_, fun i h => rs1.ni i (putBack_io.mp h), rs1.kp.fresh k2 inl0, fun P hp => k2.tab P (rs1.tb P hp), fun a h => k2.live (rs1.ml a h)⟩
  · refine putBack_cn hlen (fun j c e n => ?_) (fun k j c e e2 => ?_)
    · obtain ⟨w, h3, h4⟩ := rs1.cn j c e
      refine ⟨w, h3, h4.keep (fun a ha ⟨L, hL, haL⟩ => ?_) k2⟩
      rcases mem_zipL e1 hL haL with ⟨i, hi, h⟩ | ⟨G, h5, h6⟩
      · have := rs1.dj j i a ha h
        subst this
        rw [hi] at n
        cases n
      · exact hf G h5 a h6 ⟨j, ha⟩
    · obtain ⟨w, L, h3, h4, h5⟩ := hR2.get e2
      obtain ⟨w', G', h6, h7, h8⟩ := e1.get e
      rw [h3] at h6
      cases h6
      refine ⟨w, h8.1, ?_⟩
      have : L = fp j := by
        rw [List.getElem?_zipWith, e, h7] at h4
        cases h4
        rfl
      rw [← this]
      exact h5
  · obtain ⟨h1, h2, h3⟩ := rs1.io i v L e
    exact ⟨putBack_io.mpr h1, h2, h3⟩⟩

/-! ### a def's body -/
def initC {K : PySem.W.Frag} : Cn K → SC K
  | .d x => .f (.d x)
  | c => .io c
def initS {K : PySem.W.Frag} (n : Nat) (cs : List (Cn K)) : Sto K := cs.map initC ++ List.replicate (n - cs.length) .e
def outs {K : PySem.W.Frag} (s : Sto K) : Nat → List (Cn K) → List (Cn K)
  | _, [] => []
  | i, .d x :: cs => .d x :: outs s (i + 1) cs
  | i, c :: cs => (cnAt s i).getD c :: outs s (i + 1) cs
def isD {K : PySem.W.Frag} : Cn K → Bool
  | .d _ => true
  | _ => false
theorem reps_outs {H H1 : Hp} {F : Addr → Prop} {s1 : Sto K} (k : Kp F H H1) : ∀ {vs : List V} {cs : List (Cn K)} {Ls : List (List Addr)} {i : Nat}, Reps K H vs cs Ls →
    (∀ j c v L, cs[j]? = some c → vs[j]? = some v → Ls[j]? = some L → isD c = false → ∃ c', cnAt s1 (i + j) = some c' ∧ Rep K H1 v c' L) → Reps K H1 vs (outs s1 i cs) Ls
  | _, _, _, _, .nil, _ => .nil
  | v :: _, c :: _, L :: _, i, .cons r t, h => by
    have ht := reps_outs k (i := i + 1) t fun j c v L e1 e2 e3 e4 => by
      obtain ⟨c', h1, h2⟩ := h (j + 1) c v L (by simpa using e1) (by simpa using e2) (by simpa using e3) e4
      exact ⟨c', by rw [show i + 1 + j = i + (j + 1) by omega]; exact h1, h2⟩
    cases c with
    | d x => exact .cons ⟨r.1.keep k, r.2⟩ ht
    | l x =>
      obtain ⟨c', h1, h2⟩ := h 0 _ v L rfl rfl rfl rfl
      refine .cons ?_ ht
      rw [Nat.add_zero] at h1
      rw [h1]
      exact h2
    | k x =>
      obtain ⟨c', h1, h2⟩ := h 0 _ v L rfl rfl rfl rfl
      refine .cons ?_ ht
      rw [Nat.add_zero] at h1
      rw [h1]
      exact h2
    | t x =>
      obtain ⟨c', h1, h2⟩ := h 0 _ v L rfl rfl rfl rfl
      refine .cons ?_ ht
      rw [Nat.add_zero] at h1
      rw [h1]
      exact h2
    | x x =>
      obtain ⟨c', h1, h2⟩ := h 0 _ v L rfl rfl rfl rfl
      refine .cons ?_ ht
      rw [Nat.add_zero] at h1
      rw [h1]
      exact h2
theorem initC_cn (c : Cn K) : (initC c).cn = some c := by cases c <;> rfl
theorem initS_cn {n i : Nat} {cs : List (Cn K)} {c : Cn K} (h : cnAt (initS n cs) i = some c) : cs[i]? = some c := by
  unfold cnAt initS at h
  by_cases hi : i < cs.length
  · rw [List.getElem?_append_left (by rw [List.length_map]; exact hi), List.getElem?_map] at h
    rw [List.getElem?_eq_getElem hi] at h ⊢
    exact congrArg some (Option.some.inj ((initC_cn _).symm.trans h))
  · rw [List.getElem?_append_right (by rw [List.length_map]; omega), List.getElem?_replicate] at h
    split at h
    · rename_i sc e
      split at e
      · cases e
        cases h
      · cases e
    · cases h
theorem initS_none {n i : Nat} {cs : List (Cn K)} (h : cnAt (initS n cs) i = none) : cs.length ≤ i := by
  by_cases hi : i < cs.length
  · unfold cnAt initS at h
    rw [List.getElem?_append_left (by rw [List.length_map]; exact hi), List.getElem?_map, List.getElem?_eq_getElem hi] at h
    have := (initC_cn cs[i]).symm.trans h
    cases this
  · omega
theorem initS_io {n i : Nat} {cs : List (Cn K)} : isIo (initS n cs) i ↔ ∃ c, cs[i]? = some c ∧ isD c = false := by
  unfold isIo initS
  by_cases hi : i < cs.length
  · rw [List.getElem?_append_left (by rw [List.length_map]; exact hi), List.getElem?_map, List.getElem?_eq_getElem hi]
    cases e : cs[i] <;> simp [initC, isD]
  · rw [List.getElem?_append_right (by rw [List.length_map]; omega), List.getElem?_replicate, List.getElem?_eq_none (l := cs) (by omega)]
    constructor
    · rintro ⟨c, e⟩
      split at e <;> cases e
    · rintro ⟨c, e, _⟩
      cases e
theorem djL_get {Ls : List (List Addr)} (d : DjL Ls) : ∀ {i j : Nat} {L L' : List Addr} {a : Addr}, Ls[i]? = some L → Ls[j]? = some L' → a ∈ L → a ∈ L' → i = j := by
  have key : ∀ {i j : Nat} {L L' : List Addr} {a : Addr}, i < j → Ls[i]? = some L → Ls[j]? = some L' → a ∈ L → a ∈ L' → False := fun {i j L L' a} hij e1 e2 h1 h2 => by
    obtain ⟨l1, g1⟩ := List.getElem?_eq_some_iff.mp e1
    obtain ⟨l2, g2⟩ := List.getElem?_eq_some_iff.mp e2
    have := List.pairwise_iff_getElem.mp d i j l1 l2 hij
    rw [g1, g2] at this
    exact this a h1 h2
  intro i j L L' a e1 e2 h1 h2
  rcases Nat.lt_trichotomy i j with h | h | h
  · exact (key h e1 e2 h1 h2).elim
  · exact h
  · exact (key h e2 e1 h2 h1).elim
theorem rs_start {H : Hp} {vs : List V} {cs : List (Cn K)} {Ls : List (List Addr)} {N : List Str} (hR : Reps K H vs cs Ls) (hd : DjL Ls) (ht : Tabs Ps H) (hn : cs.length ≤ N.length) :
    RS K Ps H (inL Ls) (fun i => match cs[i]?, vs[i]?, Ls[i]? with | some c, some v, some L => if isD c = true then none else some (v, L) | _, _, _ => none) H (L2.start N vs) (initS N.length cs) (fun i => Ls.getD i []) := by
  have gd : ∀ i a, a ∈ Ls.getD i [] → ∃ L, Ls[i]? = some L ∧ a ∈ L := fun i a h => by
    rw [List.getD_eq_getElem?_getD] at h
    cases e : Ls[i]? with
    | none => rw [e] at h; cases h
    | some L => rw [e] at h; exact ⟨L, rfl, h⟩
  have st : ∀ i v, vs[i]? = some v → (L2.start N vs)[i]? = some (some v) := fun i v e => by
    unfold L2.start
    rw [List.getElem?_append_left (by rw [List.length_map]; exact (List.getElem?_eq_some_iff.mp e).1), List.getElem?_map, e]
    rfl
  refine ⟨?_, fun i c e => ?_, fun i e => ?_, fun i j a h1 h2 => ?_, fun i a h => ?_, fun i v L e => ?_, fun i h => ?_, .refl, ht, hR.live⟩
  · unfold L2.start initS
    rw [List.length_append, List.length_append, List.length_map, List.length_map, List.length_replicate, List.length_replicate, hR.len1]
  · obtain ⟨v, L, h1, h2, h3⟩ := hR.get (initS_cn e)
    refine ⟨v, st i v h1, ?_⟩
    show Rep K H v c (Ls.getD i [])
    rw [List.getD_eq_getElem?_getD, h2]
    exact h3
  · have := initS_none e
    show Ls.getD i [] = []
    rw [List.getD_eq_getElem?_getD, List.getElem?_eq_none (by rw [hR.len2]; exact this)]
    rfl
  · obtain ⟨L, e1, q1⟩ := gd i a h1
    obtain ⟨L', e2, q2⟩ := gd j a h2
    exact djL_get hd e1 e2 q1 q2
  · obtain ⟨L, e1, q1⟩ := gd i a h
    exact .inl ⟨L, List.mem_of_getElem? e1, q1⟩
  · have e' : (match cs[i]?, vs[i]?, Ls[i]? with | some c, some v, some L => if isD c = true then none else some (v, L) | _, _, _ => none) = some (v, L) := e
    split at e'
    · rename_i c v' L' h1 h2 h3
      split at e'
      · cases e'
      · rename_i hd'
        cases e'
        refine ⟨initS_io.mpr ⟨c, h1, by simpa using hd'⟩, st i _ h2, ?_⟩
        show Ls.getD i [] = _
        rw [List.getD_eq_getElem?_getD, h3]
        rfl
    · cases e'
  · obtain ⟨c, h1, h2⟩ := initS_io.mp h
    obtain ⟨v, L, h3, h4, _⟩ := hR.get h1
    show (match cs[i]?, vs[i]?, Ls[i]? with | some c, some v, some L => if isD c = true then none else some (v, L) | _, _, _ => none) ≠ none
    rw [h1, h3, h4]
    simp [h2]
/-! ### what is walked, by the results of its parts -/
theorem noSlot_lOf {fp fp' : Fp} : ∀ {l : List (RV K)} {Gs : List (List Addr)}, noSlot l = true → List.zipWith (lOf fp) l Gs = List.zipWith (lOf fp') l Gs
  | [], _, _ => rfl
  | r :: l, [], _ => by cases r <;> rfl
  | .s i :: l, G :: Gs, h => by cases h
  | .d x :: l, G :: Gs, h => by rw [List.zipWith_cons_cons, List.zipWith_cons_cons, noSlot_lOf (l := l) h]; rfl
  | .n x :: l, G :: Gs, h => by rw [List.zipWith_cons_cons, List.zipWith_cons_cons, noSlot_lOf (l := l) h]; rfl
theorem RRs.keep {H H1 : Hp} {F : Addr → Prop} {σ σ1 : L2.St} (k : Kp F H H1) : ∀ {vs : List V} {l : List (RV K)} {Gs : List (List Addr)}, RRs K H σ vs l Gs → (∀ G ∈ Gs, ∀ a ∈ G, ¬ F a) → (noSlot l = true ∨ σ1 = σ) → RRs K H1 σ1 vs l Gs
  | _, _, _, .nil, _, _ => .nil
  | _, r :: l, G :: Gs, .cons e t, n, o => by
    have o2 : noSlot l = true ∨ σ1 = σ := by
      rcases o with o | o
      · cases r <;> simp [noSlot] at o <;> exact .inl o
      · exact .inr o
    refine .cons ?_ (RRs.keep k t (fun G' h => n G' (List.mem_cons_of_mem _ h)) o2)
    have e1 := e.keep (n G List.mem_cons_self) k
    cases r with
    | d x => exact e1
    | n c => exact e1
    | s i =>
      rcases o with o | o
      · cases o
      · subst o; exact e1
/-- the parts as they stand at a later turn -/
theorem RS.later {base : Hp} {M : Addr → Prop} {P : Pn} {H H1 H2 : Hp} {σ σ2 : L2.St} {s s1 s2 : Sto K} {fp fp2 : Fp} {vs : List V} {l : List (RV K)} {Gs : List (List Addr)} {cs : List (Cn K)} (rs : RS K Ps base M P H σ s fp) (rs1 : RS K Ps base M P H1 σ s1 fp) (e : RRs K H1 σ vs l Gs) (n : ∀ G ∈ Gs, ∀ a ∈ G, H a = none)
    (r2 : RS K Ps H1 (fun a => M a ∨ inF fp a) P H2 σ2 s2 fp2) (o : noSlot l = true ∨ (σ2 = σ ∧ fp2 = fp)) (hv : valsOf s2 l = some cs) : ∃ Ls, Reps K H2 vs cs Ls := by
  have e2 : RRs K H2 σ2 vs l Gs := RRs.keep r2.kp e (fun G hG a ha z => by
    rcases z with z | z
    · exact rs.ml a z (n G hG a ha)
    · exact rs.live z (n G hG a ha)) (by
    rcases o with o | o
    · exact .inl o
    · exact .inr o.1)
  exact ⟨_, r2.vals' e2 hv⟩
/-- a walk over parts: what is to be said of it by values -/
class WalkD (K : PySem.W.Frag) (wi : TA → TI) (wr : outParam (List V → Hp → (It → Hp → Prop) → Prop)) (g : outParam (List (Cn K) → (List PyData → Prop) → Prop)) : Prop where
  eq : ∀ ta σ H R, wi ta σ H R = ta σ H fun vs H1 => wr vs H1 R
  run : ∀ {H1 : Hp} {vs : List V} {cs : List (Cn K)} {Ls : List (List Addr)} {ds : List PyData} {R : It → Hp → Prop}, Reps K H1 vs cs Ls → g cs (fun ds' => ds' = ds) → (∀ J, (∀ {H2 Ls2}, Reps K H2 vs cs Ls2 → Walks K J H2 ds) → R J H1) → wr vs H1 R
def aWalk {K : PySem.W.Frag} (g : List (Cn K) → (List PyData → Prop) → Prop) (l : AA K) : AI K := fun s R => l s fun rs s1 => ∃ cs ds, valsOf s1 rs = some cs ∧ g cs (fun ds' => ds' = ds) ∧ R ds (fun s2 => valsOf s2 rs = some cs) (noSlot rs) s1
instance snd_walk {wi : TA → TI} {wr : List V → Hp → (It → Hp → Prop) → Prop} {g : List (Cn K) → (List PyData → Prop) → Prop} [w : WalkD K wi wr g] [l : SndA K Ps tl fl] : SndI K Ps (wi tl) (aWalk g fl) := ⟨fun {base M P H σ s fp R R'} rs h q => by
  rw [w.eq]
  refine l.run rs h fun vs H1 r1 s1 Gs rs1 k1 e1 n1 d1 ⟨cs, ds, ec, hg, h1⟩ => ?_
  refine w.run (rs1.vals' e1 ec) hg fun J hJ => q J H1 ds _ (noSlot r1) s1 rs1 k1 (fun {H2 σ2 s2 fp2} r2 o hv => ?_) h1
  obtain ⟨Ls2, h2⟩ := rs.later rs1 e1 n1 r2 o hv
  exact hJ h2⟩
class WalkE (K : PySem.W.Frag) (wi : TE → TI) (wr : outParam (V → Hp → (It → Hp → Prop) → Prop)) (g : outParam (Cn K → (List PyData → Prop) → Prop)) : Prop where
  eq : ∀ ta σ H R, wi ta σ H R = ta σ H fun v H1 => wr v H1 R
  run : ∀ {H1 : Hp} {v : V} {c : Cn K} {L : List Addr} {ds : List PyData} {R : It → Hp → Prop}, Rep K H1 v c L → g c (fun ds' => ds' = ds) → (∀ J, (∀ {H2 L2}, Rep K H2 v c L2 → Walks K J H2 ds) → R J H1) → wr v H1 R
def aWalkE {K : PySem.W.Frag} (g : Cn K → (List PyData → Prop) → Prop) (a : AE K) : AI K := fun s R => a s fun r s1 => ∃ c ds, valOf s1 r = some c ∧ g c (fun ds' => ds' = ds) ∧ R ds (fun s2 => valOf s2 r = some c) (noSlot [r]) s1
instance snd_walkE {wi : TE → TI} {wr : V → Hp → (It → Hp → Prop) → Prop} {g : Cn K → (List PyData → Prop) → Prop} [w : WalkE K wi wr g] [a : SndE K Ps te fe] : SndI K Ps (wi te) (aWalkE g fe) := ⟨fun {base M P H σ s fp R R'} rs h q => by
  rw [w.eq]
  refine a.run rs h fun v H1 r1 s1 G rs1 k1 e1 n1 ⟨c, ds, ec, hg, h1⟩ => ?_
  have ev : ∀ s2 : Sto K, valOf s2 r1 = some c → valsOf s2 [r1] = some [c] := fun s2 h => by unfold valsOf; rw [h]; rfl
  refine w.run (rs1.val' e1 ec) hg fun J hJ => q J H1 ds _ (noSlot [r1]) s1 rs1 k1 (fun {H2 σ2 s2 fp2} r2 o hv => ?_) h1
  obtain ⟨Ls2, h2⟩ := rs.later (l := [r1]) (Gs := [G]) (vs := [v]) rs1 (.cons e1 .nil) (fun G' hG => by rw [List.mem_singleton.mp hG]; exact n1) r2 o (ev s2 hv)
  cases h2 with
  | cons h2 _ => exact hJ h2⟩

/-- THE RULE: a def keeps its promise if its body, read over data, does -/
theorem ok_fn {P : Program} {w : World} {mg : Str → Option Value} {base : Heap} {x qual : Str} {st : Stmt} {f : Addr} {fd : FuncData} {N ps : List Str} {k : Nat} {g : GF K} (F : Fun K x qual st f fd) (S : FnScope N ps (defScope st))
    (hlen : ∀ cs Q', g cs Q' → cs.length = ps.length) (hN : ps.length ≤ N.length)
    (hbody : ∀ (cdv : Value) (A : Around) (outer : List Env) (s : Shared) (H : Hp) (E : XK), Room k (A.deeper (envOfC qual (defScope st) s.heap.objs.size f cdv)) →
      ∃ t fs, PSs (cxOf CX0 P w K mg base N qual (defScope st) f cdv A outer s H E).nox (defBody st) t ∧ SndS K Ps t fs ∧
        ∀ cs Q', g cs Q' → fs { nx := fun s => Q' (.d .none) (outs s 0 cs), rt := fun c s => Q' c (outs s 0 cs) } (initS N.length cs)) : FnOk P w K mg base CX0 (k + 1) f fd ps (spA K Ps g) := by
  refine F.ok S (fun vs H Q E h => ?_) (fun cdv A outer s H vs Q E hr h => ?_)
  · obtain ⟨cs, Ls, Q', h1, h2, h3, h4, h5⟩ := h
    rw [h1.len1]
    exact hlen cs Q' h4
  obtain ⟨cs, Ls, Q', hR, hd, ht, hg, q⟩ := h
  obtain ⟨t, fs, hp, hs, hb⟩ := hbody cdv A outer s H E hr
  have fin : ∀ {H1 σ1 s1 fp1 v c G}, RS K Ps H (inL Ls) _ H1 σ1 s1 fp1 → Rep K H1 v c G → (∀ a ∈ G, ¬ inF fp1 a ∧ (inL Ls a ∨ H a = none)) → Q' c (outs s1 0 cs) → Q v H1 := fun {H1 σ1 s1 fp1 v c G} (r : RS K Ps H (inL Ls) (fun i => match cs[i]?, vs[i]?, Ls[i]? with | some c, some v, some L => if isD c = true then none else some (v, L) | _, _, _ => none) H1 σ1 s1 fp1) hr hG hq => by
    have io : ∀ j c v L, cs[j]? = some c → vs[j]? = some v → Ls[j]? = some L → isD c = false → isIo s1 j ∧ σ1[j]? = some (some v) ∧ fp1 j = L := fun j c v L e1 e2 e3 e4 => by
      refine r.io j v L ?_
      show (match cs[j]?, vs[j]?, Ls[j]? with | some c, some v, some L => if isD c = true then none else some (v, L) | _, _, _ => none) = some (v, L)
      rw [e1, e2, e3]
      simp [e4]
    refine q v H1 c _ G r.kp (reps_outs r.kp hR fun j c v L e1 e2 e3 e4 => ?_) hr (fun a ha => ?_) hq
    · obtain ⟨⟨c', h1⟩, h2, h3⟩ := io j c v L e1 e2 e3 e4
      have hc : cnAt s1 j = some c' := by unfold cnAt; rw [h1]; rfl
      refine ⟨c', by rw [Nat.zero_add]; exact hc, ?_⟩
      obtain ⟨w', q1, q2⟩ := r.cn j c' hc
      rw [h2] at q1
      cases q1
      rw [← h3]
      exact q2
    · obtain ⟨h1, h2⟩ := hG a ha
      rcases h2 with ⟨L, hL, haL⟩ | h2
      · obtain ⟨j, hj⟩ := List.mem_iff_getElem?.mp hL
        have hjl : j < cs.length := by rw [← hR.len2]; exact (List.getElem?_eq_some_iff.mp hj).1
        have ec : cs[j]? = some cs[j] := List.getElem?_eq_getElem hjl
        obtain ⟨v', L', e2, e3, hrep⟩ := hR.get ec
        rw [hj] at e3
        cases e3
        cases hd' : isD cs[j] with
        | true =>
          cases ed : cs[j] with
          | d x => rw [ed] at hrep; rw [hrep.2] at haL; cases haL
          | l x => rw [ed] at hd'; cases hd'
          | k x => rw [ed] at hd'; cases hd'
          | t x => rw [ed] at hd'; cases hd'
          | x x => rw [ed] at hd'; cases hd'
        | false =>
          obtain ⟨_, _, h3⟩ := io j _ v' L ec e2 hj hd'
          exact absurd ⟨j, by rw [h3]; exact haL⟩ h1
      · exact h2
  refine ⟨t, hp, hs.run (rs_start hR hd ht (by rw [hlen cs Q' hg]; exact hN)) (hb cs Q' hg) ⟨fun {H1 σ1 s1 fp1} r h => ?_, fun _ h => h.elim, fun _ h => h.elim, fun {H1 σ1 s1 fp1 v c G} r hr hG h => fin r hr hG h⟩⟩
  exact fin r (c := .d .none) (G := []) ⟨.non, rfl⟩ (fun a z => nomatch z) h
end
end Fw


namespace Fw
open PySem PySem.Spec PyProof.Rows L2 GxR Gx RZ Mint
section
variable {K : PySem.W.Frag} {Ps : List Addr} {te ta tb tc : TE} {fe fa fb fc : AE K} {tt : TT} {ft : AT K} {tl : TA} {fl : AA K}

/-! ### what is walked -/
def wTup {K : PySem.W.Frag} (c : Cn K) (Q : List PyData → Prop) : Prop := ∃ ds, c = .d (.tuple ds) ∧ Q ds
def wLst {K : PySem.W.Frag} (c : Cn K) (Q : List PyData → Prop) : Prop := ∃ ds, c = .l ds ∧ Q ds
def wStr {K : PySem.W.Frag} (c : Cn K) (Q : List PyData → Prop) : Prop := ∃ z : Str, c = .d (.str z) ∧ Q (z.cps.toList.map fun x => .str ⟨#[x]⟩)
instance walk_tup : WalkE K (iTup K) (fun x H1 R => ∃ a, x = .ref a ∧ (∃ xs, SqT K H1 a xs) ∧ R (Itt K a) H1) wTup := ⟨fun _ _ _ _ => rfl, fun {H1 v c L ds R} hr hg q => by
  obtain ⟨ds', rfl, rfl⟩ := hg
  obtain ⟨b, vs, rfl, hS, hA⟩ := hr.1.tup_inv
  refine ⟨b, rfl, ⟨vs, hS⟩, q _ fun {H2 L2} h2 => ?_⟩
  obtain ⟨b', vs', eb, hS', hA'⟩ := h2.1.tup_inv
  cases eb
  refine ⟨fun {i d} e => ?_, ⟨vs', hS', by rw [hA'.len]; exact Nat.le_refl _⟩⟩
  obtain ⟨w, e3, e4⟩ := hA'.at_ e
  refine ⟨⟨vs', w, hS', e3⟩, fun v H3 ⟨eH, y⟩ => ?_⟩
  subst eH
  have e5 := y vs' hS'
  rw [e3] at e5
  cases e5
  exact ⟨.refl, e4⟩⟩
theorem rep_l {H : Hp} {v : V} {ds : List PyData} {L : List Addr} (h : Rep K H v (.l ds) L) : ∃ p vs, v = .ref p ∧ SqL K H p vs ∧ FzA K H vs ds := by
  obtain ⟨p, vs, e, _, h1, h2⟩ := h
  exact ⟨p, vs, e, SqL.of h1, h2⟩
instance walk_lst : WalkE K (iList K) (fun x H1 R => ∃ a, x = .ref a ∧ (∃ xs, SqL K H1 a xs) ∧ R (Itl K a) H1) wLst := ⟨fun _ _ _ _ => rfl, fun {H1 v c L ds R} hr hg q => by
  obtain ⟨ds', rfl, rfl⟩ := hg
  obtain ⟨b, vs, rfl, hS, hA⟩ := rep_l hr
  refine ⟨b, rfl, ⟨vs, hS⟩, q _ fun {H2 L2} h2 => ?_⟩
  obtain ⟨b', vs', eb, hS', hA'⟩ := rep_l h2
  cases eb
  refine ⟨fun {i d} e => ?_, ⟨vs', hS', by rw [hA'.len]; exact Nat.le_refl _⟩⟩
  obtain ⟨w, e3, e4⟩ := hA'.at_ e
  refine ⟨⟨vs', w, hS', e3⟩, fun v H3 ⟨eH, y⟩ => ?_⟩
  subst eH
  have e5 := y vs' hS'
  rw [e3] at e5
  cases e5
  exact ⟨.refl, e4⟩⟩
instance walk_str : WalkE K iStr (fun v H1 R => ∃ x, v = .str x ∧ R (Its x) H1) wStr := ⟨fun _ _ _ _ => rfl, fun {H1 v c L ds R} hr hg q => by
  obtain ⟨z, rfl, rfl⟩ := hg
  have := hr.1.str_inv
  subst this
  refine ⟨z, rfl, q _ fun {H2 L2} h2 => ⟨fun {i d} e => ?_, ?_⟩⟩
  · rw [List.getElem?_map, Option.map_eq_some_iff] at e
    obtain ⟨c, e1, rfl⟩ := e
    have e1' : z.cps[i]? = some c := by rw [← Array.getElem?_toList]; exact e1
    refine ⟨(Array.getElem?_eq_some_iff.mp e1').1, fun v H' ⟨eH, c', e2, ev⟩ => ?_⟩
    rw [e1'] at e2
    cases e2
    subst eH ev
    exact ⟨.refl, .str _⟩
  · show z.cps.size ≤ _
    rw [List.length_map]
    exact Nat.le_refl _⟩
def rangeD (lo : Int) (n : Nat) : List PyData := (List.range n).map fun k => PyData.int (lo + (k : Nat))
theorem walks_range {H : Hp} (lo : Int) (n : Nat) : Walks K (Itr lo n) H (rangeD lo n) := by
  refine ⟨fun {i d} e => ?_, ?_⟩
  · unfold rangeD at e
    rw [List.getElem?_map, Option.map_eq_some_iff] at e
    obtain ⟨j, e1, rfl⟩ := e
    obtain ⟨h1, h2⟩ := List.getElem?_eq_some_iff.mp e1
    rw [List.length_range] at h1
    rw [List.getElem_range] at h2
    subst h2
    refine ⟨h1, fun v H' ⟨e1, e2⟩ => ?_⟩
    subst e1 e2
    exact ⟨.refl, .int _⟩
  · show n ≤ _
    unfold rangeD
    rw [List.length_map, List.length_range]
    exact Nat.le_refl _
def wRng1 {K : PySem.W.Frag} (cs : List (Cn K)) (Q : List PyData → Prop) : Prop := ∃ j : Int, cs = [.d (.int j)] ∧ -(2 ^ 62) ≤ j ∧ j < 2 ^ 62 ∧ Q (rangeD 0 j.toNat)
def wRng2 {K : PySem.W.Frag} (cs : List (Cn K)) (Q : List PyData → Prop) : Prop := ∃ i j : Int, cs = [.d (.int i), .d (.int j)] ∧ (-(2 ^ 62) ≤ i ∧ i < 2 ^ 62 ∧ -(2 ^ 62) ≤ j ∧ j < 2 ^ 62) ∧ Q (rangeD i (j - i).toNat)
instance walk_rng1 : WalkD K iRng1 (fun vs H1 R => ∃ j : Int, vs = [.int j] ∧ -(2 ^ 62) ≤ j ∧ j < 2 ^ 62 ∧ R (Itr 0 j.toNat) H1) wRng1 := ⟨fun _ _ _ _ => rfl, fun {H1 vs cs Ls ds R} hr hg q => by
  obtain ⟨j, rfl, c1, c2, rfl⟩ := hg
  cases hr with
  | cons e t =>
    cases t
    exact ⟨j, by rw [e.1.int_inv], c1, c2, q _ fun _ => walks_range 0 _⟩⟩
instance walk_rng2 : WalkD K iRng2 (fun vs H1 R => ∃ i j : Int, vs = [.int i, .int j] ∧ (-(2 ^ 62) ≤ i ∧ i < 2 ^ 62 ∧ -(2 ^ 62) ≤ j ∧ j < 2 ^ 62) ∧ R (Itr i (j - i).toNat) H1) wRng2 := ⟨fun _ _ _ _ => rfl, fun {H1 vs cs Ls ds R} hr hg q => by
  obtain ⟨i, j, rfl, c, rfl⟩ := hg
  cases hr with
  | cons e t =>
    cases t with
    | cons e2 t =>
      cases t
      exact ⟨i, j, by rw [e.1.int_inv, e2.1.int_inv], c, q _ fun _ => walks_range i _⟩⟩
def zipD (xs ys : List PyData) : List PyData := List.zipWith (fun x y => .tuple [x, y]) xs ys
def wZip {K : PySem.W.Frag} (cs : List (Cn K)) (Q : List PyData → Prop) : Prop := match cs with
  | [.d (.tuple xs), .d (.tuple ys)] => Q (zipD xs ys)
  | [.l xs, .l ys] => Q (zipD xs ys)
  | _ => False
theorem zipD_get {xs ys : List PyData} {i : Nat} {d : PyData} (e : (zipD xs ys)[i]? = some d) : ∃ x y, xs[i]? = some x ∧ ys[i]? = some y ∧ d = .tuple [x, y] := by
  unfold zipD at e
  rw [List.getElem?_zipWith] at e
  cases h1 : xs[i]? with
  | none => rw [h1] at e; cases e
  | some x =>
    cases h2 : ys[i]? with
    | none => rw [h1, h2] at e; cases e
    | some y => rw [h1, h2] at e; cases e; exact ⟨x, y, rfl, rfl, rfl⟩
instance walk_zip : WalkD K (iZipA K) (fun vs H1 R => ∃ a b xs ys, vs = [.ref a, .ref b] ∧ ((SqL K H1 a xs ∧ SqL K H1 b ys ∧ R (Itz K a b) H1) ∨ (SqT K H1 a xs ∧ SqT K H1 b ys ∧ R (ItzT K a b) H1))) wZip := ⟨fun _ _ _ _ => rfl, fun {H1 vs cs Ls ds R} hr hg q => by
  unfold wZip at hg
  split at hg
  · rename_i xs ys
    subst hg
    cases hr with
    | @cons u _ _ _ _ _ e t =>
      cases t with
      | @cons w _ _ _ _ _ e2 t =>
        cases t
        obtain ⟨a, us, rfl, hS, hA⟩ := e.1.tup_inv
        obtain ⟨b, ws, rfl, hT, hB⟩ := e2.1.tup_inv
        refine ⟨a, b, us, ws, rfl, .inr ⟨hS, hT, q _ fun {H2 Ls2} h2 => ?_⟩⟩
        cases h2 with
        | cons e t =>
          cases t with
          | cons e2 t =>
            obtain ⟨a', us', ea, hS', hA'⟩ := e.1.tup_inv
            cases ea
            obtain ⟨b', ws', eb, hT', hB'⟩ := e2.1.tup_inv
            cases eb
            refine ⟨fun {i d} e => ?_, ⟨us', ws', hS', hT', ?_⟩⟩
            · obtain ⟨x, y, hx, hy, rfl⟩ := zipD_get e
              obtain ⟨vx, q1, q2⟩ := hA'.at_ hx
              obtain ⟨vy, q3, q4⟩ := hB'.at_ hy
              refine ⟨⟨us', ws', vx, vy, hS', hT', q1, q3⟩, fun v H' ⟨T, x', y', ev, hT0, eH, f1, f2⟩ => ?_⟩
              have g1 := f1 us' hS'
              rw [q1] at g1
              cases g1
              have g2 := f2 ws' hT'
              rw [q3] at g2
              cases g2
              subst eH ev
              have k : Kp F0 H2 (upd H2 T (.tup [vx, vy])) := .new hT0 _
              exact ⟨k, .tup (SqT.of upd_same) (.cons (q2.keep k) (.cons (q4.keep k) .nil))⟩
            · unfold zipD
              rw [List.length_zipWith, hA'.len, hB'.len]
              omega
  · rename_i xs ys
    subst hg
    cases hr with
    | @cons u _ _ _ _ _ e t =>
      cases t with
      | @cons w _ _ _ _ _ e2 t =>
        cases t
        obtain ⟨a, us, rfl, hS, hA⟩ := rep_l e
        obtain ⟨b, ws, rfl, hT, hB⟩ := rep_l e2
        refine ⟨a, b, us, ws, rfl, .inl ⟨hS, hT, q _ fun {H2 Ls2} h2 => ?_⟩⟩
        cases h2 with
        | cons e t =>
          cases t with
          | cons e2 t =>
            obtain ⟨a', us', ea, hS', hA'⟩ := rep_l e
            cases ea
            obtain ⟨b', ws', eb, hT', hB'⟩ := rep_l e2
            cases eb
            refine ⟨fun {i d} e => ?_, ⟨us', ws', hS', hT', ?_⟩⟩
            · obtain ⟨x, y, hx, hy, rfl⟩ := zipD_get e
              obtain ⟨vx, q1, q2⟩ := hA'.at_ hx
              obtain ⟨vy, q3, q4⟩ := hB'.at_ hy
              refine ⟨⟨us', ws', vx, vy, hS', hT', q1, q3⟩, fun v H' ⟨T, x', y', ev, hT0, eH, f1, f2⟩ => ?_⟩
              have g1 := f1 us' hS'
              rw [q1] at g1
              cases g1
              have g2 := f2 ws' hT'
              rw [q3] at g2
              cases g2
              subst eH ev
              have k : Kp F0 H2 (upd H2 T (.tup [vx, vy])) := .new hT0 _
              exact ⟨k, .tup (SqT.of upd_same) (.cons (q2.keep k) (.cons (q4.keep k) .nil))⟩
            · unfold zipD
              rw [List.length_zipWith, hA'.len, hB'.len]
              omega
  · exact hg.elim⟩

/-! ### list comprehensions -/
def blank {K : PySem.W.Frag} (s : Sto K) (i : Nat) : Bool := match s[i]? with
  | some .e => true
  | some (.f (.d _)) => true
  | _ => false
def blanks {K : PySem.W.Frag} (s : Sto K) : List Nat → Bool
  | [] => true
  | v :: vs => blank s v && blanks s vs
def wipeS {K : PySem.W.Frag} (s : Sto K) : List Nat → Sto K
  | [] => s
  | v :: vs => (wipeS s vs).set v .e
def subL : List Nat → List Nat → Bool
  | [], _ => true
  | l :: ls, vs => vs.contains l && subL ls vs
theorem subL_mem : ∀ {ls vs : List Nat}, subL ls vs = true → ∀ j ∈ ls, j ∈ vs
  | l :: ls, vs, h, j, hj => by
    rw [subL, Bool.and_eq_true] at h
    rcases List.mem_cons.mp hj with rfl | hj
    · simpa using h.1
    · exact subL_mem h.2 j hj
theorem blank_can {s : Sto K} {i : Nat} (h : blank s i = true) : canSet s i = true := by
  unfold blank at h
  unfold canSet
  split at h
  · rename_i e; rw [e]
  · rename_i e; rw [e]
  · cases h
theorem RS.blank_fp {base H : Hp} {M : Addr → Prop} {P : Pn} {σ : L2.St} {s : Sto K} {fp : Fp} (r : RS K Ps base M P H σ s fp) {i : Nat} (h : blank s i = true) : fp i = [] := by
  unfold blank at h
  split at h
  · rename_i e
    exact r.em i (by unfold cnAt; rw [e]; rfl)
  · rename_i x e
    obtain ⟨v, _, q⟩ := r.cn i (.d x) (by unfold cnAt; rw [e]; rfl)
    exact q.2
  · cases h
/-- the names of a slot without content do not matter -/
theorem RS.sig {base H : Hp} {M : Addr → Prop} {P : Pn} {σ σ1 : L2.St} {s : Sto K} {fp : Fp} (r : RS K Ps base M P H σ s fp) (hl : σ1.length = σ.length) (h : ∀ j, (∃ c, cnAt s j = some c) → σ1[j]? = σ[j]?) : RS K Ps base M P H σ1 s fp where
  len := hl.trans r.len
  cn := fun i c e => by
    obtain ⟨v, h1, h2⟩ := r.cn i c e
    exact ⟨v, (h i ⟨c, e⟩).trans h1, h2⟩
  em := r.em
  dj := r.dj
  fr := r.fr
  io := fun i v L e => by
    obtain ⟨⟨c, h1⟩, h2, h3⟩ := r.io i v L e
    exact ⟨⟨c, h1⟩, (h i ⟨c, by unfold cnAt; rw [h1]; rfl⟩).trans h2, h3⟩
  ni := r.ni
  kp := r.kp
  tb := r.tb
  ml := r.ml
theorem RS.drop1 {base H : Hp} {M : Addr → Prop} {P : Pn} {σ : L2.St} {s : Sto K} {fp : Fp} (r : RS K Ps base M P H σ s fp) {i : Nat} (h : blank s i = true) : RS K Ps base M P H σ (s.set i .e) fp := by
  have q := r.drop (blank_can h)
  have e : (fun j => if i = j then [] else fp j) = fp := by
    funext j
    by_cases z : i = j
    · subst z
      rw [if_pos rfl, r.blank_fp h]
    · rw [if_neg z]
  rw [e] at q
  exact q
theorem wipe_get : ∀ {vs : List Nat} {σ : L2.St} {j : Nat}, (wipe σ vs)[j]? = if j ∈ vs ∧ j < σ.length then some none else σ[j]?
  | [], σ, j => by simp [wipe]
  | v :: vs, σ, j => by
    unfold wipe
    rw [List.getElem?_set, wipe_get, wipe_length]
    by_cases e : v = j
    · subst e
      by_cases l : v < σ.length
      · simp [l]
      · simp [l]
    · have : ¬ j = v := fun z => e z.symm
      simp [e, this]
theorem wipeS_get : ∀ {vs : List Nat} {s : Sto K} {j : Nat}, (wipeS s vs)[j]? = if j ∈ vs ∧ j < s.length then some .e else s[j]?
  | [], s, j => by simp [wipeS]
  | v :: vs, s, j => by
    have hl : (wipeS s vs).length = s.length := by
      clear wipeS_get
      induction vs with
      | nil => rfl
      | cons v vs ih => rw [wipeS, List.length_set, ih]
    unfold wipeS
    rw [List.getElem?_set, wipeS_get, hl]
    by_cases e : v = j
    · subst e
      by_cases l : v < s.length
      · simp [l]
      · simp [l]
    · have : ¬ j = v := fun z => e z.symm
      simp [e, this]
theorem blanks_mem {s : Sto K} : ∀ {vs : List Nat}, blanks s vs = true → ∀ v ∈ vs, blank s v = true
  | v :: vs, h, j, hj => by
    rw [blanks, Bool.and_eq_true] at h
    rcases List.mem_cons.mp hj with rfl | hj
    · exact h.1
    · exact blanks_mem h.2 j hj
theorem wipeS_blank {s : Sto K} {vs : List Nat} (h : ∀ v ∈ vs, blank s v = true) : ∀ {ws : List Nat} {j : Nat}, blank s j = true → blank (wipeS s ws) j = true := fun {ws j} hj => by
  unfold blank
  rw [wipeS_get]
  split
  · rename_i e; rfl
  · rename_i x e
    split at e
    · cases e
    · rfl
  · rename_i n1 n2
    unfold blank at hj
    split at hj
    · rename_i e
      by_cases z : j ∈ ws ∧ j < s.length
      · exact absurd (if_pos z) n1
      · exact absurd ((if_neg z).trans e) n1
    · rename_i x e
      by_cases z : j ∈ ws ∧ j < s.length
      · exact absurd (if_pos z) n1
      · exact absurd ((if_neg z).trans e) (n2 x)
    · cases hj
theorem RS.wipe {base H : Hp} {M : Addr → Prop} {P : Pn} {σ : L2.St} {s : Sto K} {fp : Fp} (r : RS K Ps base M P H σ s fp) : ∀ {vs : List Nat}, (∀ v ∈ vs, blank s v = true) → RS K Ps base M P H σ (wipeS s vs) fp
  | [], _ => r
  | v :: vs, h => by
    have h2 : ∀ v ∈ vs, blank s v = true := fun j hj => h j (List.mem_cons_of_mem _ hj)
    exact (RS.wipe r h2).drop1 (wipeS_blank (vs := vs) h2 (h v List.mem_cons_self))
def compF {K : PySem.W.Frag} (vs : List Nat) (gd : Sto K → Prop) (g : AG K) (ft : AT K) (fe : AE K) (Q : List PyData → Sto K → Prop) : List PyData → List PyData → Sto K → Prop
  | [], acc, s => gd s ∧ Q acc s
  | d :: ds, acc, s => gd s ∧ g (.d d) s fun s2 => ft s2 fun b s3 =>
      if b = true then fe s3 fun r s4 => ∃ y, r = .d y ∧ acc.length < 1000 ∧ blanks s4 vs = true ∧ compF vs gd g ft fe Q ds (acc ++ [y]) (wipeS s4 vs) else blanks s3 vs = true ∧ compF vs gd g ft fe Q ds acc (wipeS s3 vs)
def aLc {K : PySem.W.Frag} (vs ls : List Nat) (i : AI K) (g : AG K) (ft : AT K) (fe : AE K) : AE K := fun s Q => subL ls vs = true ∧ i s fun ds gd fr s1 => blanks s1 vs = true ∧ compF vs gd g ft fe (fun acc s2 => Q (.n (.l acc)) s2) ds [] (wipeS s1 vs)
def aYes {K : PySem.W.Frag} : AT K := fun s Q => Q true s
instance snd_yes : SndT K Ps tYes aYes := ⟨fun r h q => q true _ _ r .refl h⟩
abbrev Wiped {K : PySem.W.Frag} (s : Sto K) (vs : List Nat) : Prop := ∀ v ∈ vs, v < s.length → s[v]? = some .e
theorem wiped_wipe (s : Sto K) (vs : List Nat) : Wiped (wipeS s vs) vs := fun v hv hl => by
  rw [wipeS_get]
  refine if_pos ⟨hv, ?_⟩
  have : (wipeS s vs).length = s.length := by
    clear hl hv
    induction vs with
    | nil => rfl
    | cons v vs ih => rw [wipeS, List.length_set, ih]
  rw [← this]
  exact hl
theorem wiped_blank {s : Sto K} {vs : List Nat} (h : Wiped s vs) {v : Nat} (hv : v ∈ vs) (fp : Fp) {base H : Hp} {M : Addr → Prop} {P : Pn} {σ : L2.St} (r : RS K Ps base M P H σ s fp) : fp v = [] := by
  by_cases hl : v < s.length
  · exact r.em v (by unfold cnAt; rw [h v hv hl]; rfl)
  · exact r.em v (by unfold cnAt; rw [List.getElem?_eq_none (by omega)])
instance snd_lc {wi : TI} {fi : AI K} {g : TG} {ag : AG K} {ls vs : List Nat} [a : SndI K Ps wi fi] [b : SndG K Ps g ag ls] [c : SndT K Ps tt ft] [d : SndE K Ps te fe] : SndE K Ps (tLc wi g tt te vs) (aLc vs ls fi ag ft fe) := ⟨fun {base M P H σ s fp Q Q'} rs ⟨hsub, h⟩ q => by
  refine a.run rs h fun J H1 ds gd fr s1 rs1 k1 wk ⟨hb1, h1⟩ => ?_
  intro D hD
  have hDn : ¬ inF fp D := rs1.nof hD
  have hDM : ¬ M D := fun z => rs1.ml D z hD
  have k2 : Kp F0 H1 (upd H1 D (.lst [])) := .new hD _
  refine ⟨fun i m H2 => m = ds.length - i ∧ i ≤ ds.length ∧ ∃ s2 acc vacc, RS K Ps H1 (fun a => M a ∨ inF fp a) P H2 σ s2 fp ∧ Wiped s2 vs ∧ H2 D = some (.lst vacc) ∧ FzA K H2 vacc acc ∧ Kp (inF fp) H1 H2 ∧ compF vs gd ag ft fe (fun acc s2 => Q' (.n (.l acc)) s2) (ds.drop i) acc s2, ⟨ds.length, by omega, Nat.zero_le _, wipeS s1 vs, [], [], (RS.wipe rs1 (blanks_mem hb1)).rebase.ext k2, wiped_wipe _ _, upd_same, .nil, k2.mono fun _ z => z.elim, h1⟩, ?_⟩
  rintro i m H2 ⟨rfl, hi, s2, acc, vacc, rs2, wp2, hD2, hA2, kk2, h2⟩
  -- back in the def
  have back : ∀ {σ3 : L2.St} {s3 : Sto K} {H3 : Hp}, RS K Ps H1 (fun a => M a ∨ inF fp a) P H3 σ3 s3 fp → L2.wipe σ3 vs = L2.wipe σ vs → blanks s3 vs = true → RS K Ps H1 (fun a => M a ∨ inF fp a) P H3 σ (wipeS s3 vs) fp := fun {σ3 s3 H3} r e hb => by
    have hl : σ3.length = σ.length := by rw [← wipe_length σ3 vs, e, wipe_length]
    refine (RS.wipe r (blanks_mem hb)).sig hl.symm fun j ⟨c, ec⟩ => ?_
    have hj : ¬ (j ∈ vs ∧ j < s3.length) := fun z => by
      unfold cnAt at ec
      rw [wipeS_get, if_pos z] at ec
      cases ec
    by_cases hm : j ∈ vs
    · have hge : s3.length ≤ j := Nat.le_of_not_lt fun z => hj ⟨hm, z⟩
      have l3 : σ3.length ≤ j := by rw [r.len]; exact hge
      rw [List.getElem?_eq_none (by omega), List.getElem?_eq_none l3]
    · have := congrArg (fun l : L2.St => l[j]?) e
      simp only [wipe_get] at this
      rw [if_neg (fun z => hm z.1), if_neg (fun z => hm z.1)] at this
      exact this.symm
  by_cases hlt : i < ds.length
  · have e : ds.drop i = ds[i] :: ds.drop (i + 1) := List.drop_eq_getElem_cons hlt
    rw [e, compF] at h2
    obtain ⟨hg, h2⟩ := h2
    obtain ⟨w1, w2⟩ := (wk rs2 (.inr ⟨rfl, rfl⟩) hg).go (List.getElem?_eq_getElem hlt)
    have next : ∀ {H3 : Hp} {σ3 : L2.St} {s3 : Sto K} {acc3 : List PyData} {vacc3 : List V}, RS K Ps H1 (fun a => M a ∨ inF fp a) P H3 σ3 s3 fp → L2.wipe σ3 vs = L2.wipe σ vs → blanks s3 vs = true → H3 D = some (.lst vacc3) → FzA K H3 vacc3 acc3 → Kp (inF fp) H1 H3 → compF vs gd ag ft fe (fun acc s2 => Q' (.n (.l acc)) s2) (ds.drop (i + 1)) acc3 (wipeS s3 vs) →
        ∃ s4 acc vacc, RS K Ps H1 (fun a => M a ∨ inF fp a) P H3 σ s4 fp ∧ Wiped s4 vs ∧ H3 D = some (.lst vacc) ∧ FzA K H3 vacc acc ∧ Kp (inF fp) H1 H3 ∧ compF vs gd ag ft fe (fun acc s2 => Q' (.n (.l acc)) s2) (ds.drop (i + 1)) acc s4 :=
      fun r ew hb q1 q2 q3 q4 => ⟨_, _, _, back r ew hb, wiped_wipe _ _, q1, q2, q3, q4⟩
    refine .inr ⟨w1, fun H3 => ∃ s3 acc vacc, RS K Ps H1 (fun a => M a ∨ inF fp a) P H3 σ s3 fp ∧ Wiped s3 vs ∧ H3 D = some (.lst vacc) ∧ FzA K H3 vacc acc ∧ Kp (inF fp) H1 H3 ∧ compF vs gd ag ft fe (fun acc s2 => Q' (.n (.l acc)) s2) (ds.drop (i + 1)) acc s3, fun H3 ⟨s3, acc, vacc, h3⟩ => ⟨ds.length - (i + 1), by omega, rfl, hlt, s3, acc, vacc, h3⟩, fun x H3 y => ?_⟩
    obtain ⟨k3, z3⟩ := w2 x H3 y
    have rsw : RS K Ps H1 (fun a => M a ∨ inF fp a) P H3 (L2.wipe σ vs) s2 fp := by
      refine (rs2.ext k3).sig (wipe_length ..) fun j ⟨c, ec⟩ => ?_
      rw [wipe_get]
      refine if_neg fun z => ?_
      unfold cnAt at ec
      rw [wp2 j z.1 (by rw [← rs2.len]; exact z.2)] at ec
      cases ec
    refine b.run (r := .d ds[i]) (G := []) rsw ⟨z3, rfl⟩ (fun a z => nomatch z) h2 fun σ4 s4 fp4 rs4 o4 p4 h4 => ?_
    have efp : fp4 = fp := by
      funext j
      by_cases z : j ∈ ls
      · rw [p4 ⟨_, rfl⟩ j z]
        exact (wiped_blank wp2 (subL_mem hsub j z) fp rs2).symm
      · exact (o4.2 j z).2
    subst efp
    have ew : L2.wipe σ4 vs = L2.wipe σ vs := by
      have hl4 : σ4.length = σ.length := by rw [o4.1, wipe_length]
      refine List.ext_getElem? fun j => ?_
      rw [wipe_get, wipe_get, hl4]
      by_cases hm : j ∈ vs ∧ j < σ.length
      · rw [if_pos hm, if_pos hm]
      · rw [if_neg hm, if_neg hm]
        by_cases hj : j < σ.length
        · have hv : j ∉ vs := fun z => hm ⟨z, hj⟩
          rw [(o4.2 j fun z => hv (subL_mem hsub j z)).1, wipe_get, if_neg (fun z => hv z.1)]
        · rw [List.getElem?_eq_none (by omega), List.getElem?_eq_none (by omega)]
    refine ⟨ew, c.run rs4 h4 fun bb H5 s5 rs5 k5 h5 => ?_⟩
    cases bb with
    | true =>
      rw [if_pos rfl] at h5 ⊢
      refine d.run rs5 h5 fun v H6 r6 s6 G6 rs6 k6 e6 n6 ⟨y, er, hl6, hb6, h6⟩ => ?_
      subst er
      have kD : Kp (inF fp4) H2 H6 := ((k3.mono fun _ z => z.elim).trans k5).trans k6
      have hD6 : H6 D = some (.lst vacc) := kD.obj D _ hDn rfl hD2
      have hA6 := hA2.keep kD
      have kput : Kp (fun a => a = D) H6 (upd H6 D (.lst (vacc ++ [v]))) := .put rfl hD6 (fun _ z => by cases z) (fun _ _ z => by cases z) (fun _ z => by cases z)
      have kall : Kp (inF fp4) H1 (upd H6 D (.lst (vacc ++ [v]))) := (kk2.trans kD).fresh kput fun c z => .inr (by rw [z]; exact hD)
      refine ⟨vacc, hD6, by rw [hA6.len]; exact small1000 (Nat.le_of_lt hl6), ?_⟩
      have rsput := rs6.step kput (fun a ha z => hDn (z ▸ ha)) (fun a z => .inr (by rw [z]; exact hD))
      exact next rsput ew hb6 upd_same ((hA6.keep kput).app (.cons (e6.1.keep kput) .nil)) kall h6
    | false =>
      rw [if_neg Bool.false_ne_true] at h5 ⊢
      have kD : Kp (inF fp4) H2 H5 := (k3.mono fun _ z => z.elim).trans k5
      exact next rs5 ew h5.1 (kD.obj D _ hDn rfl hD2) (hA2.keep kD) (kk2.trans kD) h5.2
  · have e : i = ds.length := by omega
    subst e
    rw [List.drop_length, compF] at h2
    refine .inl ⟨(wk rs2 (.inr ⟨rfl, rfl⟩) h2.1).stop, q (.ref D) H2 (.n (.l acc)) s2 [D] ?_ (k1.trans kk2) ⟨D, vacc, rfl, rfl, hD2, hA2⟩ (fun a ha => by rw [List.mem_singleton.mp ha]; exact k1.non D hD) h2.2⟩
    exact (RS.unbase rs1 rs2)⟩
end
end Fw


namespace Fw
open PySem PySem.Spec PyProof.Rows L2 GxR Gx RZ Mint
theorem dp_tupI {K : PySem.W.Frag} {H : Hp} {v : V} {ds : List PyData} (h : Dp K H v (.tuple ds)) : ∃ a xs, v = .ref a ∧ SqT K H a xs ∧ DpAll K H xs ds := by
  cases h with
  | @tup a xs _ hS hD => exact ⟨a, xs, rfl, hS, hD⟩
theorem dp_appF {K : PySem.W.Frag} {H : Hp} : ∀ {vs ws : List V} {ds es : List PyData}, DpAll K H vs ds → DpAll K H ws es → DpAll K H (vs ++ ws) (ds ++ es)
  | _, _, _, _, .nil, s => s
  | _, _, _, _, .cons h t, s => .cons h (dp_appF t s)
def fCatD (K : PySem.W.Frag) : R2 := fun x y H Q => ∃ (ds es : List PyData), Dp K H x (.tuple ds) ∧ Dp K H y (.tuple es) ∧ ds.length + es.length ≤ 1000 ∧ ∀ H' z, ExtP H H' → Dp K H' z (.tuple (ds ++ es)) → Q z H'
theorem op_catF {X : Cx} : OpR X (binaryOp .Add) (fCatD X.K) := fun pins s σ H x y v u Q I rx ry h => by
  obtain ⟨ds, es, hx, hy, hl, q⟩ := h
  obtain ⟨a, xs, rfl, sa, da⟩ := dp_tupI hx
  obtain ⟨b, ys, rfl, sb, db⟩ := dp_tupI hy
  have lx := dpAll_len da
  have ly := dpAll_len db
  refine op_catA pins s σ H _ _ v u Q I rx ry ⟨a, b, xs, ys, rfl, rfl, sa, sb, by rw [lx, ly, sizeLine_eq]; omega, fun z => ?_, fun _ z => ?_, fun _ _ p hp => ?_⟩
  · subst z
    have : ds = [] := List.eq_nil_of_length_eq_zero lx.symm
    subst this
    exact q H _ (Ext.refl true H) hy
  · subst z
    have : es = [] := List.eq_nil_of_length_eq_zero ly.symm
    subst this
    rw [List.append_nil] at q
    exact q H _ (Ext.refl true H) hx
  · exact q _ _ (Ext.new hp _) (.tup (SqT.of upd_same) ((Ext.new (dk := true) hp _).dps (dp_appF da db)))
def cutF (xs : List PyData) (lo hi : Option Int) : List PyData := (xs.drop (HT.sIx xs.length 0 lo)).take (HT.sIx xs.length xs.length hi - HT.sIx xs.length 0 lo)
theorem dps_dropF {K : PySem.W.Frag} {H : Hp} : ∀ {xs : List V} {ds : List PyData} (n : Nat), DpAll K H xs ds → DpAll K H (xs.drop n) (ds.drop n)
  | _, _, 0, h => h
  | _, _, _ + 1, .nil => .nil
  | _, _, n + 1, .cons _ t => dps_dropF n t
theorem dps_takeF {K : PySem.W.Frag} {H : Hp} : ∀ {xs : List V} {ds : List PyData} (n : Nat), DpAll K H xs ds → DpAll K H (xs.take n) (ds.take n)
  | _, _, 0, h => .nil
  | _, _, _ + 1, .nil => .nil
  | _, _, n + 1, .cons a t => .cons a (dps_takeF n t)
def fSlD (K : PySem.W.Frag) : V → Option Int → Option Int → Hp → VK → Prop := fun x lo hi H Q => ∃ ds : List PyData, Dp K H x (.tuple ds) ∧ ∀ H' z, ExtP H H' → Dp K H' z (.tuple (cutF ds lo hi)) → Q z H'
theorem sl_dataF {X : Cx} : SlR X (fSlD X.K) := fun pins s σ H x v vl vu lo hi sl Q I rx hs pl pu h => by
  obtain ⟨ds, hx, q⟩ := h
  obtain ⟨a, xs, rfl, sa, da⟩ := dp_tupI hx
  have lm := dpAll_len da
  refine sl_tupA pins s σ H _ v vl vu lo hi sl Q I rx hs pl pu ⟨a, _, rfl, sa, fun z => ?_, fun _ p hp => ?_⟩
  · rw [lm] at z
    have : cutF ds lo hi = ds := by
      unfold cutF
      rw [z.1, z.2, List.drop_zero, Nat.sub_zero, List.take_length]
    rw [this] at q
    exact q H _ (Ext.refl true H) hx
  · refine q _ _ (Ext.new hp _) (.tup (SqT.of upd_same) ((Ext.new (dk := true) hp _).dps ?_))
    unfold cutV cutF
    rw [lm]
    exact dps_takeF _ (dps_dropF _ da)
theorem cutF_to (xs : List PyData) (k : Nat) : cutF xs none (some (k : Int)) = xs.take k := by
  unfold cutF
  rw [HT.sIx_none, HT.sIx_nat, List.drop_zero, Nat.sub_zero]
  rcases Nat.le_total k xs.length with h | h
  · rw [Nat.min_eq_left h]
  · rw [Nat.min_eq_right h, List.take_of_length_le (Nat.le_refl _), List.take_of_length_le h]
theorem cutF_from (xs : List PyData) (k : Nat) : cutF xs (some (k : Int)) none = xs.drop k := by
  unfold cutF
  rw [HT.sIx_none, HT.sIx_nat]
  rcases Nat.le_total k xs.length with h | h
  · rw [Nat.min_eq_left h, List.take_of_length_le (by rw [List.length_drop]; omega)]
  · rw [Nat.min_eq_right h, List.drop_of_length_le (Nat.le_refl _), List.drop_of_length_le h, List.take_nil]

end Fw


namespace Gy
open PySem PySem.Spec PyProof.Rows L2 GenW GxR Gx

abbrev GxR' (Xg : Cx) (fp : List Addr) (Qt : Hp → Prop) : GenEnd := fun n s₀ r s1 =>
  ((r = .ok (.ret .none) ∨ r = .ok .next) ∧ (∃ σ' H', Inv Xg [] σ' H' s1 ∧ (∀ b ∈ fp, H' b = none) ∧ Qt H')) ∨ ∃ e, r = .error e ∧ (False : Prop)
abbrev GxY (Xg : Cx) (fp : List Addr) (Qf : Hp → Prop) : Protocol := fun n s₀ v s1 kap =>
  ∃ c σ' H', v = .bool c ∧ Inv Xg [] σ' H' s1 ∧ (∀ b ∈ fp, H' b = none) ∧ if c = false then ∀ s2, Woke s1 s2 → kap (.send .none) s2 else Qf H'

theorem gx_seg {Xg : Cx} {A : Around} {tg iter elt : Expr} {scope : Scope} {pos : Pos} {it : Addr} {fp : List Addr} {tn : Nat → Heap → Prop} {J : It} {g : TG} {te : TE}
    (T : Turn Xg.prog Xg.w Xg.K tg J fp it tn) (hg : PG Xg tg g) (he : PE Xg elt te) (hxe : ∀ e s, Xg.xe e s → False) (hcalm : Xg.calm = true) (hco : Xg.env.scope.isCoroutine = false)
    (hA : A.over (.compLoop (.GeneratorExp elt [⟨tg, iter, [], 0⟩] scope pos) 0 (.ref it) .none Xg.env) [] = Xg.A)
    (stat : ∀ H', (∀ b ∈ fp, H' b = none) → ∀ b ∈ fp, FpOk Xg [] H' b)
    (W : Nat → Nat → L2.St → Hp → Prop) (Qt Qf : Hp → Prop)
    (turn : ∀ i m σ H, W i m σ H → (J.stop i H ∧ Qt H) ∨ (J.go i H ∧ 0 < m ∧ ∀ x H', J.yld i H x H' → g x σ H' fun σ2 H2 => te σ2 H2 fun v H3 => ∃ c, v = .bl c ∧ if c = false then ∃ m', m' < m ∧ W (i + 1) m' σ2 H3 else Qf H3)) :
    ∀ (n i m : Nat) (σ : L2.St) (H : Hp) (s s₀ : Shared), m ≤ n → Inv Xg [] σ H s → tn i s.heap → (∀ b ∈ fp, H b = none) → W i m σ H →
      Seg (model Xg.prog Xg.w) A (GxR' Xg fp Qt) (GxY Xg fp Qf) n s₀ (.compLoop (.GeneratorExp elt [⟨tg, iter, [], 0⟩] scope pos) 0 (.ref it) .none Xg.env)
        ((model Xg.prog Xg.w).den (.compLoop (.GeneratorExp elt [⟨tg, iter, [], 0⟩] scope pos) 0 (.ref it) .none Xg.env)) [] s := by
  intro n
  induction n with
  | zero =>
    intro i m σ H s s₀ hm I st fr w
    show Seg _ A _ _ _ s₀ _ ((compTurn (.GeneratorExp elt [⟨tg, iter, [], 0⟩] scope pos) 0 (.ref it) .none Xg.env).onRaise (leaving Xg.env)) [] s
    rw [compTurn_gen, Sem.onRaise_eq_wrap]
    refine seg_bind_wrap (wpAny_standAt ?_)
    rcases turn i m σ H w with ⟨stop, qt⟩ | ⟨_, hm0, _⟩
    · refine seg_bind_wrap ?_
      rw [hA]
      refine thn (T.done Xg rfl rfl rfl hcalm i [] s σ H _ I (stat H fr) st stop) fun r s4 ⟨hr, I4⟩ => ?_
      subst hr
      exact seg_end (.ok .next) (.inl ⟨.inr rfl, σ, H, I4, fr, qt⟩)
    · omega
  | succ n ih =>
    intro i m σ H s s₀ hm I st fr w
    show Seg _ A _ _ _ s₀ _ ((compTurn (.GeneratorExp elt [⟨tg, iter, [], 0⟩] scope pos) 0 (.ref it) .none Xg.env).onRaise (leaving Xg.env)) [] s
    rw [compTurn_gen, Sem.onRaise_eq_wrap]
    refine seg_bind_wrap (wpAny_standAt ?_)
    rcases turn i m σ H w with ⟨stop, qt⟩ | ⟨go, hm0, step⟩
    · refine seg_bind_wrap ?_
      rw [hA]
      refine thn (T.done Xg rfl rfl rfl hcalm i [] s σ H _ I (stat H fr) st stop) fun r s4 ⟨hr, I4⟩ => ?_
      subst hr
      exact seg_end (.ok .next) (.inl ⟨.inr rfl, σ, H, I4, fr, qt⟩)
    · refine seg_bind_wrap ?_
      rw [hA]
      refine thn (T.item Xg rfl rfl rfl hcalm i [] s σ H _ I (stat H fr) st go) fun r s4 ⟨u, hr, h4⟩ => ?_
      subst hr
      refine seg_bind_wrap ?_
      rw [hA]
      refine wpAny_mono h4 (fun _ s5 ⟨x, H5, I5, r5, y5, st5, fr5⟩ => ?_) fun e s5 h => h
      have I5' := I5.pinned (stat H5 fr5) (T.obj _ _ st5)
      refine seg_bind_wrap ?_
      rw [hA]
      refine wpAny_mono (hg.run _ s5 σ H5 x u _ I5' r5 (step x H5 y5)) (fun _ s6 ⟨σ6, H6, I6, q6⟩ => ?_) fun e s5 h => (hxe e s5 h).elim
      simp only [List.forIn_nil]
      refine seg_bind_wrap (wpAny_pure ?_)
      simp only [if_true]
      have hy : ∀ v, yieldOut Xg.env v = yieldValue v := fun v => by simp only [yieldOut, hco, Bool.false_eq_true, if_false]
      simp only [hy]
      rw [Sem.bind_eq_wrap', Sem.bind_eq_wrap', Sem.wrap_wrap, Sem.wrap_wrap]
      refine seg_wrap ?_
      rw [hA]
      refine wpAny_mono (he.run _ s6 σ6 H6 _ I6 q6) (fun y s7 ⟨v, H7, I7, r7, c, ec, q7⟩ => ?_) fun e s5 h => (hxe e s5 h).elim
      subst ec
      obtain rfl : y = Value.bool c := r7
      have fr7 : ∀ b ∈ fp, H7 b = none := fun b hb => by
        obtain ⟨o, e, d⟩ := T.obj _ _ st5 b hb
        exact (I7.pin (b, o) (List.mem_append_right _ (List.mem_append_right _ (mem_pinsAt hb e)))).2.1
      have st7 : tn (i + 1) s7.heap := T.keep _ _ _ st5 fun b hb o e => (I7.pin (b, o) (List.mem_append_right _ (List.mem_append_right _ (mem_pinsAt hb e)))).1
      have I7' := I7.unpinned
      refine seg_at (seg_yield rfl rfl rfl ⟨c, σ6, H7, rfl, I7', fr7, ?_⟩)
      cases c with
      | true =>
        rw [if_neg (show ¬ true = false by decide)] at q7 ⊢
        exact q7
      | false =>
        rw [if_pos rfl] at q7 ⊢
        obtain ⟨m', hm', w7⟩ := q7
        intro s2 hw
        exact seg_again rfl (ih (i + 1) m' σ6 H7 s2 s2 (by omega) (Inv.woke I7' hw) (by rw [hw.heap]; exact st7) fr7 w7)
end Gy


namespace Gy
open PySem PySem.Spec PyProof.Rows L2 GenW GxR Gx

theorem gx_start {Xg : Cx} {A : Around} {tg iter elt : Expr} {scope : Scope} {pos : Pos} {it : Addr} {fp : List Addr} {tn : Nat → Heap → Prop} {J : It} {Qt Qf : Hp → Prop} {n : Nat} {s s₀ : Shared}
    (T : Turn Xg.prog Xg.w Xg.K tg J fp it tn) (st : tn 0 s.heap)
    (loop : Seg (model Xg.prog Xg.w) A (GxR' Xg fp Qt) (GxY Xg fp Qf) n s₀ (.compLoop (.GeneratorExp elt [⟨tg, iter, [], 0⟩] scope pos) 0 (.ref it) .none Xg.env)
        ((model Xg.prog Xg.w).den (.compLoop (.GeneratorExp elt [⟨tg, iter, [], 0⟩] scope pos) 0 (.ref it) .none Xg.env)) [] s) :
    Seg (model Xg.prog Xg.w) A (GxR' Xg fp Qt) (GxY Xg fp Qf) n s₀ (.compStart (.GeneratorExp elt [⟨tg, iter, [], 0⟩] scope pos) 0 (.ref it) .none Xg.env)
        ((model Xg.prog Xg.w).den (.compStart (.GeneratorExp elt [⟨tg, iter, [], 0⟩] scope pos) 0 (.ref it) .none Xg.env)) [] s := by
  show Seg _ A _ _ _ s₀ _ ((compStart (.GeneratorExp elt [⟨tg, iter, [], 0⟩] scope pos) 0 (.ref it) .none Xg.env).onRaise (leaving Xg.env)) [] s
  unfold compStart
  rw [Sem.onRaise_eq_wrap]
  show Seg _ A _ _ _ s₀ _ ((ask >>= _).wrap _ _ _ _) [] s
  refine seg_bind_wrap (wpAny_askSetting ?_)
  split
  · exact seg_again rfl loop
  · first
      | exact seg_bind_wrap (wpAny_rule (seg_bind_wrap (wpAny_standAt (seg_bind_wrap (T.self _ 0 s _ _ st (seg_again rfl loop))))))
      | (refine seg_bind_wrap (wpAny_rule ?_); show Seg _ A _ _ _ s₀ _ ((standAt iter.pos >>= _).wrap _ _ _ _) [] s; exact seg_bind_wrap (wpAny_standAt (seg_bind_wrap (T.self _ 0 s _ _ st (seg_again rfl loop)))))

theorem gx_any {Xg : Cx} {A : Around} {fp : List Addr} {Qt Qf : Hp → Prop} {R : Result → Shared → Prop} {a : Addr} {g : Nat}
    (hh : A.handled = none) (hd : A.depth < recursionLimit) (gen : ∀ σ H s, Inv Xg [] σ H s → s.heap.IsGen a g)
    (ht : ∀ σ' H' s1 h', Inv Xg [] σ' H' s1 → (∀ b ∈ fp, H' b = none) → Qt H' → (∀ b o, s1.heap.get? b = some o → h'.get? b = some o) → R (.ok (.ret (.bool false))) { s1.setGen g .finished with heap := h' })
    (hf : ∀ σ' H' s1 gs', gs'.bare = true → Inv Xg [] σ' H' s1 → (∀ b ∈ fp, H' b = none) → Qf H' → R (.ok (.ret (.bool true))) (s1.setGen g gs')) :
    ∀ (n : Nat) (s : Shared), s.heap.IsGen a g → s.heap.NoLimit →
      (∃ gs, s.gens[g]? = some gs ∧ gs.Goes (model Xg.prog Xg.w) A.in1.in1 (GxR' Xg fp Qt) (GxY Xg fp Qf) n (.send .none) (s.setGen g .running)) →
      codeAny (model Xg.prog Xg.w) A (.builtin "any.loop" ⟨[.ref a], []⟩) R s := by
  intro n
  induction n with
  | zero =>
    intro s hg hl ⟨gs, hgs, hgo⟩
    refine codeAny_builtin F.entry_any_loop ?_
    rw [Around.under_plainId F.plain_any_loop _]
    show wpAny _ A.in1 (pyNext (.ref a) >>= _) _ _ s
    refine wpAny_bind (next_genG (A := A.in1) (Er := fun _ _ => False) hh hl hd hg hgs hgo (fun v s₁ gs' hbare hv => ?_) (fun s₁ hp h' hk => ?_) fun e s₁ he => he.elim)
    · obtain ⟨c, σ', H', rfl, I, fr, q⟩ := hv
      refine wpAny_bind (wpAny_holding (wpAny_truthy_bool ?_))
      refine wpAny_bind (wpAny_letGo ?_)
      cases c with
      | false =>
        rw [if_pos rfl] at q
        exact (q s₁ ⟨rfl, rfl, I.bare⟩).elim
      | true =>
        rw [if_neg (show ¬ true = false by decide)] at q
        simp only [if_true]
        refine wpAny_bind (wpAny_rule (wpAny_pure ?_))
        exact hf σ' H' s₁ gs' hbare I fr q
    · obtain ⟨σ', H', I, fr, q⟩ := hp
      refine wpAny_bind (wpAny_rule (wpAny_pure ?_))
      exact ht σ' H' s₁ h' I fr q hk
  | succ n ih =>
    intro s hg hl ⟨gs, hgs, hgo⟩
    have hgl : g < s.gens.size := (Array.getElem?_eq_some_iff.mp hgs).1
    refine codeAny_builtin F.entry_any_loop ?_
    rw [Around.under_plainId F.plain_any_loop _]
    show wpAny _ A.in1 (pyNext (.ref a) >>= _) _ _ s
    refine wpAny_bind (wpAny_gsz (n := g + 1) hgl (next_genG (A := A.in1) (Er := fun _ _ => False) hh hl hd hg hgs hgo (fun v s₁ gs' hbare hv => ?_) (fun s₁ hp h' hk => ?_) fun e s₁ he => he.elim))
    · intro hsz
      obtain ⟨c, σ', H', rfl, I, fr, q⟩ := hv
      refine wpAny_bind (wpAny_holding (wpAny_truthy_bool ?_))
      refine wpAny_bind (wpAny_letGo ?_)
      cases c with
      | false =>
        rw [if_pos rfl] at q
        simp only [Bool.false_eq_true, if_false]
        have hsz1 : g < s₁.gens.size := by
          have q : (s₁.setGen g gs').gens.size = s₁.gens.size := setGen_size _ _ _
          have hsz' : g + 1 ≤ (s₁.setGen g gs').gens.size := hsz
          omega
        refine wpAny_pure ⟨plainId_quiet F.plain_any_loop _, ih (s₁.setGen g gs') (gen σ' H' s₁ I) I.nolimit ⟨gs', setGen_at hsz1, ?_⟩⟩
        exact q _ ⟨rfl, rfl, allBare_setGen (s := s₁.setGen g gs') (allBare_setGen I.bare hbare) rfl⟩
      | true =>
        rw [if_neg (show ¬ true = false by decide)] at q
        simp only [if_true]
        refine wpAny_bind (wpAny_rule (wpAny_pure ?_))
        exact hf σ' H' s₁ gs' hbare I fr q
    · intro hsz
      obtain ⟨σ', H', I, fr, q⟩ := hp
      refine wpAny_bind (wpAny_rule (wpAny_pure ?_))
      exact ht σ' H' s₁ h' I fr q hk
end Gy


namespace Gy
open PySem PySem.Spec PyProof.Rows L2 GenW GxR Gx

/-- what all(elt for tg in iter) asks -/
def tAnyG (P : Addr) (js : List (Option Nat)) (wi : TI) (g : TG) (te : TE) : TE := fun σ H Q => wi σ H fun J H1 => TabG H1 P ∧ ∀ H2, Tabbed P H1 H2 →
  ∃ W : Nat → Nat → L2.St → Hp → Prop, (∃ m, W 0 m (capt js σ) H2) ∧ ∀ i m σ' H', W i m σ' H' →
    (J.stop i H' ∧ Q (.bl false) H') ∨ (J.go i H' ∧ 0 < m ∧ ∀ x H'', J.yld i H' x H'' → g x σ' H'' fun σ2 H3 => te σ2 H3 fun v H4 => ∃ c, v = .bl c ∧ if c = false then ∃ m', m' < m ∧ W (i + 1) m' σ2 H4 else Q (.bl true) H4)

theorem pe_anyG {X : Cx} {c P : Addr} {k : Nat} {elt iter tg : Expr} {p pos gpos : Pos} {scope : Scope} {N : List Str} {js : List (Option Nat)} {wi : TI} {g : TG} {te : TE}
    (hr : Room (k + 1) X.A) (hg : Gl X "any") (hm : X.mg "any" = none) (TB : TabB X.base X.mg c P) (hcode : X.env.code = .ref c) (S : GxS X.env.scope X.N scope N js) (hi : PI X tg iter wi)
    (hgt : ∀ C code s H fp pn, PG (gxCx X scope N C code s H fp pn) tg g)
    (hel : ∀ C code s H fp pn, Room k (gxCx X scope N C code s H fp pn).A → PE (gxCx X scope N C code s H fp pn) elt te)
    (hs : ∀ v, genFold iter X.env v = pure v := by intro _; rfl) (hb : bootBuiltins "any" = some (.builtin "any") := by decide +kernel)
    (he : starEach [.GeneratorExp elt [⟨tg, iter, [], 0⟩] scope gpos] X.env = (false, eval (.GeneratorExp elt [⟨tg, iter, [], 0⟩] scope gpos) X.env) :: starEach [] X.env := by rfl) :
    PE X (.Call (.Name "any" p) [.GeneratorExp elt [⟨tg, iter, [], 0⟩] scope gpos] [] pos) (tAnyG P js wi g te) := by
  refine ⟨fun pins s σ H Q I h => ?_⟩
  refine wpAny_Call_Name_kw (ld_blt I hg hm hb ?_)
  refine PyProof.Rows.callWith_builtin1 ?_ he (by rfl)
  rw [he]
  show wpAny _ _ (spliced ((false, eval (.GeneratorExp elt [⟨tg, iter, [], 0⟩] scope gpos) X.env) :: backTo pos (starEach [] X.env))) _ _ s
  have hh : X.A.handled = none := hr.hd
  have hroom : X.A.depth < recursionLimit := by have := hr.dp; omega
  refine Calls.spliced_cons (wpAny_GeneratorExp_make S.co (closure_ok fun y hy hf => ?_) S.nocell S.dot S.kind hroom ?_ hs)
  · exact I.ok.has y.1 (S.frees y hy hf)
  refine thn (hi.run pins s σ H _ I h) fun v s1 h1 => thn h1 fun itv s2 ⟨it, fp, tn, J, H2, eit, I2, T, st2, f2, ⟨ps, hP, ht⟩, q⟩ => ?_
  subst eit
  refine ⟨I2.nolimit, ?_⟩
  have hPs : s2.heap.get? P = some { cls := .none, data := .fields ps } := I2.hok P _ hP
  have hPlt : P < s2.heap.objs.size := Heap.lt_size hPs
  have cd : PySem.W.CodeHd s2.heap c P := TB.code.keeps fun b u e => I2.bk b u e
  have cont : ∀ (code : Value) (h3 : Heap) (tk : Nat) (ps' : Array Value), Heap.ExtBut P s2.heap h3 → s2.heap.objs.size ≤ h3.objs.size → h3.get? P = some { cls := .none, data := .fields ps' } → (∃ more, ps' = ps ++ more) → TriplesOk ps'.toList →
      wpAny (model X.prog X.w) X.A (builtinsFor X.env.globals X.env.builtins) (fun bi s₄ =>
        ∀ h', h'.Ns s₄.heap.objs.size (fun y => if y = ".0" then some (.ref it) else none) → Heap.SameBut s₄.heap.objs.size (s₄.heap.push { cls := .type "frame", data := .dict #[] }) h' →
          wpAny (model X.prog X.w) X.A (spliced (backTo pos (starEach [] X.env))) (fun vs s₅ => wpAny (model X.prog X.w) X.A (call (.builtin "any") (.ref h'.objs.size :: vs)) (EP X pins σ Q) X.xe s₅) X.xe { s₄ with
            gens := s₄.gens.push (.fresh (.compStart (.GeneratorExp elt [⟨tg, iter, [], 0⟩] scope gpos) 0 (.ref it) .none (genEnv scope (cloFrom X.env.cells scope.names []) s₄.heap.objs.size code bi X.env))),
            toks := s₄.toks + 1 + 1 + 1,
            heap := h'.push { cls := .type "generator", data := .fields #[.int s₄.gens.size 0, .str "<genexpr>" (s₄.toks + 1), .str (X.env.qual ++ "<genexpr>") (s₄.toks + 1 + 1)] } }) X.xe { s2 with heap := h3, toks := tk } := by
    intro code h3 tk ps' hx hsz hP3 hmore ht3
    obtain ⟨more, em⟩ := hmore
    obtain ⟨bm, ob, e1, e2, e3, e4, e5, e6, e7, e8⟩ := TB.bm
    have keep3 : ∀ b u, b ≠ P → s2.heap.get? b = some u → h3.get? b = some u := fun b u hb e => hx b u hb e
    refine wpAny_builtinsFor (m := X.mg) (by rw [I2.ok.glob]; exact (I2.mod.glob.keeps I2.bk).extBut hx TB.gP) e1 e2 (keep3 _ _ e4 (I2.bk _ _ e5)) e6 e7 e8 ?_
    intro h' hn' hs'
    have hsz' : h'.objs.size = h3.objs.size + 1 := by rw [hs'.1, Heap.size_push]
    have keep' : ∀ b o, h3.get? b = some o → h'.get? b = some o := fun b o e => hs'.extBut b o (Nat.ne_of_lt (Heap.lt_size e)) (Heap.get?_push_of_some _ e)
    refine Calls.spliced_nil ?_
    -- the state behind the making
    have core : ∀ (go : Obj) (nm qn : Value) (tk5 : Nat) (gs : GenState), go.cls = .type "generator" → go.data = .fields #[.int s2.gens.size 0, nm, qn] → go.slots = #[] → (∀ h : Heap, (h.push go).get? h.objs.size = some go) →
        gs = .fresh (.compStart (.GeneratorExp elt [⟨tg, iter, [], 0⟩] scope gpos) 0 (.ref it) .none (gxEnv X scope h3.objs.size code)) →
        wpAny (model X.prog X.w) X.A (call (.builtin "any") [.ref h'.objs.size]) (EP X pins σ Q) X.xe { s2 with gens := s2.gens.push gs, toks := tk5, heap := h'.push go } := by
      intro go nm qn tk5 gs hgc hgd hgs hgp egs
      have hgen : ∀ h : Heap, h.get? h'.objs.size = some go → h.IsGen h'.objs.size s2.gens.size := fun h e => ⟨go, nm, qn, e, hgc, hgd, hgs⟩
      have hat : (h'.push go).get? h'.objs.size = some go := hgp _
      have bareN : AllBare (s2.gens.push gs) := AllBare.push I2.bare (by rw [egs]; rfl)
      have keep5 : ∀ b u, b ≠ P → s2.heap.get? b = some u → (h'.push go).get? b = some u := fun b u hb e => Heap.get?_push_of_some _ (keep' b u (keep3 b u hb e))
      have hP5 : (h'.push go).get? P = some { cls := .none, data := .fields (ps ++ more) } := by
        rw [← em]
        exact Heap.get?_push_of_some _ (keep' P _ hP3)
      have J5 := inv_tab (more := more) (h' := h'.push go) (g' := s2.gens.push gs) (d' := s2.drawn) (t' := tk5) I2 hP keep5 hP5 bareN
      have hT : Tabbed P H2 (upd H2 P (.tbl (ps ++ more))) := ⟨⟨ps ++ more, upd_same, by rw [← em]; exact ht3⟩, fun b hb => upd_ne hb⟩
      obtain ⟨W, ⟨m0, w0⟩, turn⟩ := q _ hT
      have nP : ∀ b u, H2 b = some u → (∀ q, u ≠ .tbl q) → b ≠ P := fun b u e q z => by
        rw [z, hP] at e
        exact q ps (Option.some.inj e).symm
      have nN : ∀ b, H2 b = none → b ≠ P := fun b e z => by
        rw [z, hP] at e
        cases e
      have un : Un (frs X.stack) [] H2 (upd H2 P (.tbl (ps ++ more))) s2.heap (h'.push go) := by
        refine ⟨fun b o e n _ _ => keep5 b o (nN b n) e, fun b o e n _ _ => ⟨o.slots, keep5 b o (nN b n) e⟩, fun b o _ n _ => by rw [upd_ne (nN b n)]; exact n, fun b o e _ => ?_, fun b xs e => by rw [upd_ne (nP b _ e fun q z => by cases z)]; exact e, fun b o u e => by rw [upd_ne (nP b _ e fun q z => by cases z)]; exact e, fun b qs e => ?_⟩
        · by_cases hb : b = P
          · rw [hb]
            exact ⟨_, hP5⟩
          · exact ⟨o, keep5 b o hb e⟩
        · by_cases hb : b = P
          · rw [hb, hP] at e
            cases e
            rw [hb, upd_same]
            exact ⟨more, rfl⟩
          · rw [upd_ne hb, e]
            exact ⟨#[], by simp⟩
      have ofp : ∀ b ∈ fp, ∃ o, s2.heap.get? b = some o := fun b hb => by
        obtain ⟨o, e, _⟩ := T.obj _ _ st2 b hb
        exact ⟨o, e⟩
      have fpP : ∀ b ∈ fp, b ≠ P := fun b hb => nN b (f2 b hb).1
      have hCa : h'.objs.size ≠ h3.objs.size := by rw [hsz']; exact Nat.succ_ne_self _
      have hSa : s2.heap.objs.size ≤ h'.objs.size := by rw [hsz']; exact Nat.le_succ_of_le hsz
      have Ig : L2.Inv (gxCx X scope N h3.objs.size code s2 H2 fp [(h'.objs.size, go)]) [] (capt js σ) (upd H2 P (.tbl (ps ++ more))) { s2 with gens := s2.gens.push gs, toks := tk5, heap := h'.push go } :=
        inv_gx hh S I2 f2 ofp hsz rfl bareN un (hn'.push _) J5.hok hat hCa hSa (fun v z => by rw [hgd] at z; cases z) fun b hb => by
          rw [upd_ne fun z => absurd (Nat.lt_of_lt_of_le hPlt (by rw [← z]; exact hb)) (Nat.lt_irrefl _)]
          exact I2.hok.fresh hb
      have stat : ∀ H', (∀ b ∈ fp, H' b = none) → ∀ b ∈ fp, FpOk (gxCx X scope N h3.objs.size code s2 H2 fp [(h'.objs.size, go)]) [] H' b := fun H' hn b hb => by
        obtain ⟨h1, h2⟩ := Ig.ok.exf b hb
        refine ⟨hn b hb, h1, Ig.ok.exfs b hb, .inl hb, h2, fun p hp => ?_⟩
        have e : p = (h'.objs.size, go) := by simpa [gxCx] using hp
        rw [e]
        obtain ⟨o, ho⟩ := ofp b hb
        exact Nat.ne_of_gt (Nat.lt_of_lt_of_le (Heap.lt_size ho) hSa)
      have genI : ∀ σ H s, L2.Inv (gxCx X scope N h3.objs.size code s2 H2 fp [(h'.objs.size, go)]) [] σ H s → s.heap.IsGen h'.objs.size s2.gens.size := fun σ H s J => hgen _ (J.pin (h'.objs.size, go) (List.mem_append_left _ (List.mem_singleton.mpr rfl))).1
      -- back in the def
      have back : ∀ {σ' : L2.St} {H' : Hp} {s' : Shared}, L2.Inv (gxCx X scope N h3.objs.size code s2 H2 fp [(h'.objs.size, go)]) [] σ' H' s' → L2.Inv X pins σ H' s' := fun {σ' H' s'} J =>
        I2.call' (ch := fp) J.os J.base J.hok J.bare fun b hb => by
          obtain ⟨_, f1, _, f3, f4, f5⟩ := f2 b hb
          exact ⟨f3, f1, f4, f5⟩
      have hel' := hel h3.objs.size code s2 H2 fp [(h'.objs.size, go)] (gxRoom hr _)
      have hgt' := hgt h3.objs.size code s2 H2 fp [(h'.objs.size, go)]
      have loop := gx_seg (Xg := gxCx X scope N h3.objs.size code s2 H2 fp [(h'.objs.size, go)]) (A := X.A.in1.in1) (scope := scope) (pos := gpos) (iter := iter) T hgt' hel' (fun _ _ h => h) rfl S.co over_comp stat W (fun H' => Q (.bl false) H') (fun H' => Q (.bl true) H') turn
      refine call_function_tree F.kind_any F.plain_any F.entry_any (F.args_any1 _) ?_
      unfold Builtin.«any»
      refine wpAny_bind (m := oneArg "any" _) (wpAny_pure ?_)
      have hgen5 : (h'.push go).IsGen h'.objs.size s2.gens.size := hgen _ hat
      refine wpAny_bind (wpAny_pyIter_gen (s := { s2 with gens := s2.gens.push gs, toks := tk5, heap := h'.push go }) hgen5 ?_)
      refine wpAny_pure ⟨plainId_quiet F.plain_any_loop _, ?_⟩
      refine gx_any (Xg := gxCx X scope N h3.objs.size code s2 H2 fp [(h'.objs.size, go)]) (fp := fp) (Qt := fun H' => Q (.bl false) H') (Qf := fun H' => Q (.bl true) H') (g := s2.gens.size) hh hroom genI (fun σ' H' s1 h' J fr qt hk => ?_) (fun σ' H' s1 gs' hbg J fr qf => ?_) m0 _ hgen5 Ig.nolimit ⟨gs, ?_, ?_⟩
      · exact ⟨.bl false, H', Inv.after (back J) rfl hk (allBare_setGen (s := s1) J.bare rfl), rfl, qt⟩
      · exact ⟨.bl true, H', Inv.after (back J) rfl (fun _ _ e => e) (allBare_setGen (s := s1) J.bare hbg), rfl, qf⟩
      · exact Array.getElem?_push_size ..
      · rw [egs]
        refine ⟨rfl, ?_⟩
        have wk : Woke { s2 with gens := s2.gens.push gs, toks := tk5, heap := h'.push go } (({ s2 with gens := s2.gens.push gs, toks := tk5, heap := h'.push go } : Shared).setGen s2.gens.size .running) :=
          ⟨rfl, rfl, allBare_setGen (s := { s2 with gens := s2.gens.push gs, toks := tk5, heap := h'.push go }) bareN rfl⟩
        have st5 : tn 0 (h'.push go) := T.keep _ _ _ st2 fun b hb o e => keep5 b o (fpP b hb) e
        rw [egs] at wk Ig
        refine gx_start (Xg := gxCx X scope N h3.objs.size code s2 H2 fp [(h'.objs.size, go)]) T st5 (loop m0 0 m0 _ _ _ _ (Nat.le_refl _) (Inv.woke Ig wk) st5 (fun b hb => ?_) w0)
        rw [upd_ne (fpP b hb)]
        exact (f2 b hb).1
    exact core _ _ _ _ _ rfl rfl rfl (fun h => Heap.get?_push_size _ rfl) rfl
  cases hf : codeAmong gpos ps.toList with
  | none =>
    refine wpAny_genexprCodeX hcode (cd.code hPs ht) (cd.tab hPs) hf fun c' h' tk hx hge hlt hco' _ htab' _ => ?_
    obtain ⟨o1, vs, f1, tf, fl, tg, inF, tx, tt, op, _, _, _, _, _, _, _, _, _, htr, _⟩ := hco'
    exact cont _ h' tk _ hx (Nat.le_trans hge (Nat.le_of_lt hlt)) htab'.2 ⟨_, rfl⟩ htr
  | some cv =>
    refine wpAny_genexprCode_hit hcode (cd.code hPs ht) hf ?_
    exact cont cv s2.heap s2.toks ps (Heap.ExtBut.refl _ _) (Nat.le_refl _) hPs ⟨#[], by simp⟩ ht
end Gy


namespace Fw
open PySem PySem.Spec PyProof.Rows L2 GxR Gx Gy RZ Mint
section
variable {K : PySem.W.Frag} {Ps : List Addr} {te ta tb tc to : TE} {fe fa fb fc fo : AE K} {tt : TT} {ft : AT K} {tl : TA} {fl : AA K}
mutual
theorem Fz.nol {H : Hp} : ∀ {d : PyData} {v : V}, Fz K H v d → Fw.nol d = true
  | _, _, .non => rfl
  | _, _, .bl b => rfl
  | _, _, .int i => rfl
  | _, _, .str x => rfl
  | _, _, .tup h t => by rw [Fw.nol]; exact FzA.nol t
theorem FzA.nol {H : Hp} : ∀ {ds : List PyData} {vs : List V}, FzA K H vs ds → nols ds = true
  | _, _, .nil => rfl
  | _, _, .cons h t => by rw [nols, Bool.and_eq_true]; exact ⟨Fz.nol h, FzA.nol t⟩
end
theorem nols_iff {ds : List PyData} : nols ds = true ↔ ∀ d ∈ ds, Fw.nol d = true := by
  induction ds with
  | nil => simp [nols]
  | cons d ds ih => simp [nols, ih]
theorem nols_app {a b : List PyData} (h1 : nols a = true) (h2 : nols b = true) : nols (a ++ b) = true := by
  rw [nols_iff] at *
  intro d hd
  rcases List.mem_append.mp hd with h | h
  · exact h1 d h
  · exact h2 d h
theorem nols_sub {a b : List PyData} (h : nols b = true) (hs : ∀ d ∈ a, d ∈ b) : nols a = true := by
  rw [nols_iff] at *
  exact fun d hd => h d (hs d hd)

/-! ### isinstance -/
def aIsa {K : PySem.W.Frag} (g : PyData → Bool) (a : AE K) : AE K := fun s Q => a s fun r s1 => ∃ c, valOf s1 r = some c ∧ match c with
  | .d x => Q (.d (.bool (g x))) s1
  | .l xs => Q (.d (.bool (g (.list xs)))) s1
  | _ => False
instance snd_isa {g : PyData → Bool} [a : SndE K Ps te fe] : SndE K Ps (tIsa K g te) (aIsa g fe) := ⟨fun {base M P H σ s fp Q Q'} rs h q => by
  refine a.run rs h fun v H1 r1 s1 G rs1 k1 e1 n1 ⟨c, ec, h1⟩ => ?_
  have hr := rs1.val' e1 ec
  cases c with
  | d x => exact ⟨x, hr.1.dp, q _ _ (.d (.bool (g x))) s1 [] rs1 k1 ⟨.bl _, rfl⟩ (fun a z => nomatch z) h1⟩
  | l xs =>
    obtain ⟨p, vs, rfl, hS, hA⟩ := rep_l hr
    exact ⟨.list xs, .lst hS hA.dp, q _ _ (.d (.bool (g (.list xs)))) s1 [] rs1 k1 ⟨.bl _, rfl⟩ (fun a z => nomatch z) h1⟩
  | k x => exact h1.elim
  | t x => exact h1.elim
  | x x => exact h1.elim⟩

/-! ### all(..) and any(..) of a generator expression -/
def captS {K : PySem.W.Frag} (js : List (Option Nat)) (s : Sto K) : Sto K := js.map fun o => match o with
  | some j => match cnAt s j with
    | some (.d x) => .f (.d x)
    | _ => .e
  | none => .e
def genF {K : PySem.W.Frag} (z : Bool) (g : AG K) (fe : AE K) (Q : Bool → Prop) : List PyData → Sto K → Prop
  | [], _ => Q z
  | d :: ds, s => g (.d d) s fun s1 => fe s1 fun r s2 => ∃ c, r = .d (.bool c) ∧ if c = z then genF z g fe Q ds s2 else Q c
def aGen {K : PySem.W.Frag} (Ps : List Addr) (z : Bool) (P : Addr) (js : List (Option Nat)) (i : AI K) (g : AG K) (fe : AE K) : AE K := fun s Q => i s fun ds gd fr s1 => gd s1 ∧ P ∈ Ps ∧ genF z g fe (fun b => Q (.d (.bool b)) s1) ds (captS js s1)
theorem kp_tabbed {H H1 : Hp} {P : Addr} (h : TabG H P) (t : Tabbed P H H1) : Kp F0 H H1 := .of_ext (.of_tabbed h t)
theorem capt_rs {base H : Hp} {M : Addr → Prop} {P : Pn} {σ : L2.St} {s : Sto K} {fp : Fp} {js : List (Option Nat)} (r : RS K Ps base M P H σ s fp) : RS K Ps H F0 (fun _ => none) H (capt js σ) (captS js s) (fun _ => []) := by
  refine ⟨by unfold capt captS; rw [List.length_map, List.length_map], fun i c e => ?_, fun i _ => rfl, (fun i j a h => nomatch h), (fun i a h => nomatch h), (fun i v L e => nomatch e), fun i ⟨c, e⟩ => ?_, .refl, r.tb, fun a z => z.elim⟩
  · unfold cnAt captS at e
    rw [List.getElem?_map] at e
    unfold capt
    rw [List.getElem?_map]
    cases ej : js[i]? with
    | none => rw [ej] at e; cases e
    | some o =>
      rw [ej] at e
      cases o with
      | none => cases e
      | some j =>
        have e' : (match cnAt s j with | some (.d x) => SC.f (.d x) | _ => .e).cn = some c := e
        split at e'
        · rename_i x ex
          cases e'
          obtain ⟨v, h1, h2⟩ := r.cn j _ ex
          refine ⟨v, ?_, h2.1, rfl⟩
          show some ((σ[j]?).getD none) = some (some v)
          rw [h1]
          rfl
        · cases e'
  · unfold captS at e
    rw [List.getElem?_map] at e
    cases ej : js[i]? with
    | none => rw [ej] at e; cases e
    | some o =>
      rw [ej] at e
      cases o with
      | none => cases e
      | some j =>
        have e' : some (match cnAt s j with | some (.d x) => SC.f (.d x) | _ => SC.e) = some (SC.io c) := e
        split at e' <;> cases e'
theorem gen_run {z : Bool} {P : Addr} {js : List (Option Nat)} {g : TG} {ag : AG K} {ls : List Nat} [b : SndG K Ps g ag ls] [d : SndE K Ps te fe] {base H H1 : Hp} {M : Addr → Prop} {Pp : Pn} {σ : L2.St} {s1 : Sto K} {fp : Fp} {J : It} {ds : List PyData} {gd : Sto K → Prop} {fr : Bool} {Q : VK} {Q' : RV K → Sto K → Prop}
    (rs1 : RS K Ps base M Pp H1 σ s1 fp) (k1 : Kp (inF fp) H H1) (wk : ∀ {H2 σ2 s2 fp2}, RS K Ps H1 (fun a => M a ∨ inF fp a) Pp H2 σ2 s2 fp2 → (fr = true ∨ (σ2 = σ ∧ fp2 = fp)) → gd s2 → Walks K J H2 ds) (hg : gd s1) (hP : P ∈ Ps) (h1 : genF z ag fe (fun b => Q' (.d (.bool b)) s1) ds (captS js s1))
    (q : ∀ v H' r s' G, RS K Ps base M Pp H' σ s' fp → Kp (inF fp) H H' → RR K H' σ v r G → (∀ a ∈ G, H a = none) → Q' r s' → Q v H') :
    TabG H1 P ∧ ∀ H2, Tabbed P H1 H2 → ∃ W : Nat → Nat → L2.St → Hp → Prop, (∃ m, W 0 m (capt js σ) H2) ∧ ∀ i m σ' H', W i m σ' H' →
      (J.stop i H' ∧ Q (.bl z) H') ∨ (J.go i H' ∧ 0 < m ∧ ∀ x H'', J.yld i H' x H'' → g x σ' H'' fun σ2 H3 => te σ2 H3 fun v H4 => ∃ c, v = .bl c ∧ if c = z then ∃ m', m' < m ∧ W (i + 1) m' σ2 H4 else Q (.bl (!z)) H4) := by
  refine ⟨rs1.tb P hP, fun H2 ht => ?_⟩
  have k0 := kp_tabbed (rs1.tb P hP) ht
  have out : ∀ {H3 : Hp} {c : Bool}, Kp F0 H1 H3 → Q' (.d (.bool c)) s1 → Q (.bl c) H3 := fun {H3 c} k h => q _ _ (.d (.bool c)) s1 [] (rs1.ext k) (k1.trans (k.mono fun _ z => z.elim)) ⟨.bl _, rfl⟩ (fun a z => nomatch z) h
  refine ⟨fun i m σ' H' => m = ds.length - i ∧ i ≤ ds.length ∧ Kp F0 H1 H' ∧ ∃ sb fpb, RS K Ps H1 F0 (fun _ => none) H' σ' sb fpb ∧ genF z ag fe (fun b => Q' (.d (.bool b)) s1) (ds.drop i) sb, ⟨ds.length, by omega, Nat.zero_le _, k0, captS js s1, _, (capt_rs rs1).ext k0, h1⟩, ?_⟩
  rintro i m σ' H' ⟨rfl, hi, k2, sb, fpb, rsb, h2⟩
  have wk2 := wk (rs1.rebase.ext k2) (.inr ⟨rfl, rfl⟩) hg
  by_cases hlt : i < ds.length
  · have e : ds.drop i = ds[i] :: ds.drop (i + 1) := List.drop_eq_getElem_cons hlt
    rw [e, genF] at h2
    obtain ⟨w1, w2⟩ := wk2.go (List.getElem?_eq_getElem hlt)
    refine .inr ⟨w1, by omega, fun x H3 y => ?_⟩
    obtain ⟨k3, z3⟩ := w2 x H3 y
    refine b.run (r := .d ds[i]) (G := []) (rsb.ext k3) ⟨z3, rfl⟩ (fun a z => nomatch z) h2 fun σ4 s4 fp4 rs4 o4 p4 h4 => ?_
    refine d.run rs4 h4 fun v H5 r5 s5 G5 rs5 k5 e5 n5 ⟨c, ec, h5⟩ => ?_
    subst ec
    have kk : Kp F0 H1 H5 := (k2.trans k3).fresh k5 fun a ⟨j, hj⟩ => by
      rcases rs4.fr j a hj with z | z
      · exact z.elim
      · exact .inr z
    refine ⟨c, e5.1.bl_inv, ?_⟩
    by_cases hc : c = z
    · rw [if_pos hc] at h5 ⊢
      exact ⟨ds.length - (i + 1), by omega, rfl, hlt, kk, s5, fp4, rs5, h5⟩
    · rw [if_neg hc] at h5 ⊢
      have : c = !z := by cases c <;> cases z <;> first | rfl | exact absurd rfl hc
      rw [← this]
      exact out kk h5
  · have e : i = ds.length := by omega
    subst e
    rw [List.drop_length, genF] at h2
    exact .inl ⟨wk2.stop, out k2 h2⟩
instance snd_allG {P : Addr} {js : List (Option Nat)} {wi : TI} {fi : AI K} {g : TG} {ag : AG K} {ls : List Nat} [a : SndI K Ps wi fi] [b : SndG K Ps g ag ls] [d : SndE K Ps te fe] : SndE K Ps (tAllG P js wi g te) (aGen Ps true P js fi ag fe) := ⟨fun {base M Pp H σ s fp Q Q'} rs h q =>
  a.run rs h fun J H1 ds gd fr s1 rs1 k1 wk ⟨hg, hP, h1⟩ => gen_run (z := true) rs1 k1 wk hg hP h1 q⟩
instance snd_anyG {P : Addr} {js : List (Option Nat)} {wi : TI} {fi : AI K} {g : TG} {ag : AG K} {ls : List Nat} [a : SndI K Ps wi fi] [b : SndG K Ps g ag ls] [d : SndE K Ps te fe] : SndE K Ps (tAnyG P js wi g te) (aGen Ps false P js fi ag fe) := ⟨fun {base M Pp H σ s fp Q Q'} rs h q =>
  a.run rs h fun J H1 ds gd fr s1 rs1 k1 wk ⟨hg, hP, h1⟩ => gen_run (z := false) rs1 k1 wk hg hP h1 q⟩

/-! ### xs.append(e), xs a name -/
def aApp {K : PySem.W.Frag} (i : Nat) (a : AE K) : AS K := fun D s => (∃ ds, cnAt s i = some (.l ds)) ∧ a s fun r s1 => ∃ ds y, cnAt s1 i = some (.l ds) ∧ r = .d y ∧ ds.length < 1000 ∧ D.nx (setC s1 i (.l (ds ++ [y])))
theorem RS.mod {base H : Hp} {M : Addr → Prop} {P : Pn} {σ : L2.St} {s : Sto K} {fp : Fp} (r : RS K Ps base M P H σ s fp) {H1 : Hp} {i : Nat} {c c0 : Cn K} {v : V} (e0 : cnAt s i = some c0) (hv : σ[i]? = some (some v)) (k : Kp (fun a => a ∈ fp i) H H1) (hr : Rep K H1 v c (fp i)) : RS K Ps base M P H1 σ (setC s i c) fp := by
  refine ⟨r.len.trans setC_len.symm, fun j c' e => ?_, fun j e => ?_, r.dj, r.fr, fun j v' L e => ?_, fun j h => r.ni j (setC_io.mp h), r.kp.fresh k fun a ha => r.fr i a ha, fun P hp => k.tab P (r.tb P hp), fun a h => k.live (r.ml a h)⟩
  · rw [setC_cn] at e
    by_cases z : i = j
    · rw [if_pos z] at e
      obtain ⟨_, _, rfl⟩ := Option.map_eq_some_iff.mp e
      subst z
      exact ⟨v, hv, hr⟩
    · rw [if_neg z] at e
      obtain ⟨w, h1, h2⟩ := r.cn j c' e
      exact ⟨w, h1, h2.keep (fun a ha hb => z (r.dj i j a hb ha)) k⟩
  · rw [setC_cn] at e
    by_cases z : i = j
    · rw [if_pos z] at e
      exact r.em j (Option.map_eq_none_iff.mp e)
    · rw [if_neg z] at e
      exact r.em j e
  · obtain ⟨h1, h2, h3⟩ := r.io j v' L e
    exact ⟨setC_io.mpr h1, h2, h3⟩
instance snd_app {i : Nat} [a : SndE K Ps te fe] : SndS K Ps (tDrop (tBM K "list" rAppend (tVar i) (tCons te tNil))) (aApp i fe) := ⟨fun {base M P H σ s fp D D'} rs h d => by
  obtain ⟨⟨ds0, e0⟩, h⟩ := h
  obtain ⟨v, e1, e2⟩ := rs.cn i _ e0
  refine ⟨v, e1, ?_, ?_⟩
  · obtain ⟨p, vs, rfl, hS, _⟩ := rep_l e2
    exact .inl ⟨rfl, vs, hS⟩
  refine a.run rs h fun w H1 r s1 G r1 k e n ⟨ds, y, e3, er, hl, h1⟩ => ?_
  subst er
  obtain ⟨v', e4, e5⟩ := r1.cn i _ e3
  rw [e1] at e4
  cases e4
  obtain ⟨p, vs, rfl, ef, hp, hA⟩ := e5
  refine ⟨p, vs, w, rfl, rfl, hp, by rw [hA.len]; exact small1000 (Nat.le_of_lt hl), ?_⟩
  have kput : Kp (fun a => a ∈ fp i) H1 (upd H1 p (.lst (vs ++ [w]))) := .put (by rw [ef]; exact List.mem_singleton.mpr rfl) hp (fun _ z => by cases z) (fun _ _ z => by cases z) (fun _ z => by cases z)
  exact d.nx (r1.mod (c := .l (ds ++ [y])) e3 e1 kput ⟨p, _, rfl, ef, upd_same, (hA.keep kput).app (.cons (e.1.keep kput) .nil)⟩) h1⟩

/-! ### builtins over contents -/
def one {K : PySem.W.Frag} (g : Cn K → (Cn K → Prop) → Prop) : List (Cn K) → (Cn K → Prop) → Prop := fun cs Q => ∃ c, cs = [c] ∧ g c Q
def rLen (K : PySem.W.Frag) : List V → Hp → VK → Prop := fun xs H Q => ∃ x n, xs = [x] ∧ LenV K x H n ∧ Q (.int n) H
theorem cr_len {X : Cx} : CallR X (.builtin "len") (rLen X.K) := call_len
def lenC {K : PySem.W.Frag} : Cn K → Option Nat
  | .d (.tuple ds) => some ds.length
  | .d (.str z) => if z.length ≤ sizeLine then some z.length else none
  | .l ds => some ds.length
  | _ => none
def dLen {K : PySem.W.Frag} (cs : List (Cn K)) (Q : Cn K → Prop) : Prop := ∃ c n, cs = [c] ∧ lenC c = some n ∧ Q (.d (.int n))
instance call_lenC : CallD K (rLen K) dLen := ⟨fun {H vs cs Ls Q Q'} hR hg q => by
  obtain ⟨c, n, rfl, e, h⟩ := hg
  cases hR with
  | @cons v _ _ _ _ _ r t =>
    cases t
    refine ⟨v, n, rfl, ?_, q _ H (.d (.int n)) [] .refl ⟨.int _, rfl⟩ (fun a z => nomatch z) h⟩
    unfold lenC at e
    split at e
    · cases e
      obtain ⟨a, us, rfl, hS, hA⟩ := r.1.tup_inv
      exact .inr ⟨us, hS, hA.len.symm⟩
    · rename_i z
      split at e
      · rename_i hz
        cases e
        rw [r.1.str_inv]
        exact ⟨hz, rfl⟩
      · cases e
    · cases e
      obtain ⟨p, us, rfl, hS, hA⟩ := rep_l r
      exact .inl ⟨us, hS, hA.len.symm⟩
    · cases e⟩
def rTupOf (K : PySem.W.Frag) : List V → Hp → VK → Prop := fun xs H Q => ∃ p ys, xs = [.ref p] ∧ ((SqL K H p ys ∧ ∀ l, H l = none → Q (.ref l) (upd H l (.tup ys))) ∨ (SqT K H p ys ∧ Q (.ref p) H))
theorem cr_tuple {X : Cx} : CallR X (.type "tuple") (rTupOf X.K) := call_tuple_of
def itemsC {K : PySem.W.Frag} : Cn K → Option (List PyData)
  | .d (.tuple ds) => some ds
  | .l ds => some ds
  | _ => none
def dTupOf {K : PySem.W.Frag} (cs : List (Cn K)) (Q : Cn K → Prop) : Prop := ∃ c ds, cs = [c] ∧ itemsC c = some ds ∧ Q (.d (.tuple ds))
instance call_tupC : CallD K (rTupOf K) dTupOf := ⟨fun {H vs cs Ls Q Q'} hR hg q => by
  obtain ⟨c, ds, rfl, e, h⟩ := hg
  cases hR with
  | @cons v _ _ _ _ _ r t =>
    cases t
    unfold itemsC at e
    split at e
    · cases e
      obtain ⟨a, us, rfl, hS, hA⟩ := r.1.tup_inv
      exact ⟨a, us, rfl, .inr ⟨hS, q _ H (.d (.tuple ds)) [] .refl ⟨.tup hS hA, rfl⟩ (fun a z => nomatch z) h⟩⟩
    · cases e
      obtain ⟨p, us, rfl, hS, hA⟩ := rep_l r
      refine ⟨p, us, rfl, .inl ⟨hS, fun l hl => ?_⟩⟩
      have k : Kp F0 H (upd H l (.tup us)) := .new hl _
      exact q _ _ (.d (.tuple ds)) [] k ⟨.tup (SqT.of upd_same) (hA.keep k), rfl⟩ (fun a z => nomatch z) h
    · cases e⟩
def rListOf (K : PySem.W.Frag) : List V → Hp → VK → Prop := fun xs H Q => ∃ p ys, xs = [.ref p] ∧ (SqL K H p ys ∨ SqT K H p ys) ∧ ∀ l, H l = none → Q (.ref l) (upd H l (.lst ys))
theorem cr_list {X : Cx} : CallR X (.type "list") (rListOf X.K) := call_list_of
def dListOf {K : PySem.W.Frag} (cs : List (Cn K)) (Q : Cn K → Prop) : Prop := ∃ c ds, cs = [c] ∧ itemsC c = some ds ∧ Q (.l ds)
instance call_listC : CallD K (rListOf K) dListOf := ⟨fun {H vs cs Ls Q Q'} hR hg q => by
  obtain ⟨c, ds, rfl, e, h⟩ := hg
  cases hR with
  | @cons v _ _ _ _ _ r t =>
    cases t
    have fin : ∀ {us}, FzA K H us ds → ∀ l, H l = none → Q (.ref l) (upd H l (.lst us)) := fun {us} hA l hl => by
      have k : Kp F0 H (upd H l (.lst us)) := .new hl _
      exact q _ _ (.l ds) [l] k ⟨l, us, rfl, rfl, upd_same, hA.keep k⟩ (fun a ha => by rw [List.mem_singleton.mp ha]; exact hl) h
    unfold itemsC at e
    split at e
    · cases e
      obtain ⟨a, us, rfl, hS, hA⟩ := r.1.tup_inv
      exact ⟨a, us, rfl, .inr hS, fin hA⟩
    · cases e
      obtain ⟨p, us, rfl, hS, hA⟩ := rep_l r
      exact ⟨p, us, rfl, .inl hS, fin hA⟩
    · cases e⟩
/-- ints, bools out of data -/
def intsOf : List PyData → Option (List Int)
  | [] => some []
  | .int i :: ds => (intsOf ds).map (i :: ·)
  | _ :: _ => none
def boolsOf : List PyData → Option (List Bool)
  | [] => some []
  | .bool i :: ds => (boolsOf ds).map (i :: ·)
  | _ :: _ => none
theorem intsOf_fz {H : Hp} : ∀ {us : List V} {ds : List PyData} {ns : List Int}, FzA K H us ds → intsOf ds = some ns → us = ns.map V.int
  | _, _, _, .nil, e => by cases e; rfl
  | _, d :: ds, ns, .cons r t, e => by
    cases d <;> simp [intsOf] at e
    obtain ⟨ns', e1, rfl⟩ := e
    rw [r.int_inv, intsOf_fz t e1]
    rfl
theorem boolsOf_fz {H : Hp} : ∀ {us : List V} {ds : List PyData} {ns : List Bool}, FzA K H us ds → boolsOf ds = some ns → us = ns.map V.bl
  | _, _, _, .nil, e => by cases e; rfl
  | _, d :: ds, ns, .cons r t, e => by
    cases d <;> simp [boolsOf] at e
    obtain ⟨ns', e1, rfl⟩ := e
    rw [r.bl_inv, boolsOf_fz t e1]
    rfl
def dSum {K : PySem.W.Frag} (cs : List (Cn K)) (Q : Cn K → Prop) : Prop := ∃ ds ns, cs = [.l ds] ∧ intsOf ds = some ns ∧ Q (.d (.int ns.sum))
def dMaxL {K : PySem.W.Frag} (cs : List (Cn K)) (Q : Cn K → Prop) : Prop := ∃ ds ns, cs = [.l ds] ∧ intsOf ds = some ns ∧ 0 < ns.length ∧ ∀ m, m ∈ ns → (∀ y, y ∈ ns → y ≤ m) → Q (.d (.int m))
def dMinL {K : PySem.W.Frag} (cs : List (Cn K)) (Q : Cn K → Prop) : Prop := ∃ ds ns, cs = [.l ds] ∧ intsOf ds = some ns ∧ 0 < ns.length ∧ ∀ m, m ∈ ns → (∀ y, y ∈ ns → m ≤ y) → Q (.d (.int m))
def dMaxTu {K : PySem.W.Frag} (cs : List (Cn K)) (Q : Cn K → Prop) : Prop := ∃ ds ns, cs = [.d (.tuple ds)] ∧ intsOf ds = some ns ∧ 0 < ns.length ∧ ∀ m, m ∈ ns → (∀ y, y ∈ ns → y ≤ m) → Q (.d (.int m))
def dAllL {K : PySem.W.Frag} (cs : List (Cn K)) (Q : Cn K → Prop) : Prop := ∃ ds ns, cs = [.l ds] ∧ boolsOf ds = some ns ∧ Q (.d (.bool (ns.all id)))
def dAnyL {K : PySem.W.Frag} (cs : List (Cn K)) (Q : Cn K → Prop) : Prop := ∃ ds ns, cs = [.l ds] ∧ boolsOf ds = some ns ∧ Q (.d (.bool (ns.any id)))
instance call_sumC : CallD K (rSum K) dSum := ⟨fun {H vs cs Ls Q Q'} hR hg q => by
  obtain ⟨ds, ns, rfl, e, h⟩ := hg
  cases hR with
  | cons r t =>
    cases t
    obtain ⟨p, us, rfl, hS, hA⟩ := rep_l r
    exact ⟨p, ns, rfl, intsOf_fz hA e ▸ hS, q _ H (.d (.int ns.sum)) [] .refl ⟨.int _, rfl⟩ (fun a z => nomatch z) h⟩⟩
instance call_maxC : CallD K (rMax K) dMaxL := ⟨fun {H vs cs Ls Q Q'} hR hg q => by
  obtain ⟨ds, ns, rfl, e, hl, h⟩ := hg
  cases hR with
  | cons r t =>
    cases t
    obtain ⟨p, us, rfl, hS, hA⟩ := rep_l r
    exact ⟨p, ns, rfl, intsOf_fz hA e ▸ hS, hl, fun m h1 h2 => q _ H (.d (.int m)) [] .refl ⟨.int _, rfl⟩ (fun a z => nomatch z) (h m h1 h2)⟩⟩
instance call_minC : CallD K (rMin K) dMinL := ⟨fun {H vs cs Ls Q Q'} hR hg q => by
  obtain ⟨ds, ns, rfl, e, hl, h⟩ := hg
  cases hR with
  | cons r t =>
    cases t
    obtain ⟨p, us, rfl, hS, hA⟩ := rep_l r
    exact ⟨p, ns, rfl, intsOf_fz hA e ▸ hS, hl, fun m h1 h2 => q _ H (.d (.int m)) [] .refl ⟨.int _, rfl⟩ (fun a z => nomatch z) (h m h1 h2)⟩⟩
instance call_maxTC : CallD K (rMaxT K) dMaxTu := ⟨fun {H vs cs Ls Q Q'} hR hg q => by
  obtain ⟨ds, ns, rfl, e, hl, h⟩ := hg
  cases hR with
  | cons r t =>
    cases t
    obtain ⟨p, us, rfl, hS, hA⟩ := r.1.tup_inv
    exact ⟨p, ns, rfl, intsOf_fz hA e ▸ hS, hl, fun m h1 h2 => q _ H (.d (.int m)) [] .refl ⟨.int _, rfl⟩ (fun a z => nomatch z) (h m h1 h2)⟩⟩
instance call_allC : CallD K (rAll K) dAllL := ⟨fun {H vs cs Ls Q Q'} hR hg q => by
  obtain ⟨ds, ns, rfl, e, h⟩ := hg
  cases hR with
  | cons r t =>
    cases t
    obtain ⟨p, us, rfl, hS, hA⟩ := rep_l r
    exact ⟨p, ns, rfl, boolsOf_fz hA e ▸ hS, q _ H (.d (.bool (ns.all id))) [] .refl ⟨.bl _, rfl⟩ (fun a z => nomatch z) h⟩⟩
instance call_anyC : CallD K (rAny K) dAnyL := ⟨fun {H vs cs Ls Q Q'} hR hg q => by
  obtain ⟨ds, ns, rfl, e, h⟩ := hg
  cases hR with
  | cons r t =>
    cases t
    obtain ⟨p, us, rfl, hS, hA⟩ := rep_l r
    exact ⟨p, ns, rfl, boolsOf_fz hA e ▸ hS, q _ H (.d (.bool (ns.any id))) [] .refl ⟨.bl _, rfl⟩ (fun a z => nomatch z) h⟩⟩
def rMax2 : List V → Hp → VK → Prop := fun xs H Q => ∃ i j, xs = [.int i, .int j] ∧ Q (.int (if j > i then j else i)) H
theorem cr_max2 {X : Cx} (hc : X.calm = true) : CallR X (.builtin "max") rMax2 := call_max2 hc
def rMin2 : List V → Hp → VK → Prop := fun xs H Q => ∃ i j, xs = [.int i, .int j] ∧ Q (.int (if j < i then j else i)) H
theorem cr_min2 {X : Cx} (hc : X.calm = true) : CallR X (.builtin "min") rMin2 := call_min2 hc
def rAbs : List V → Hp → VK → Prop := fun xs H Q => ∃ i, xs = [.int i] ∧ Q (.int (if i < 0 then -i else i)) H
theorem cr_abs {X : Cx} : CallR X (.builtin "abs") rAbs := call_abs
def rInt1 : List V → Hp → VK → Prop := fun xs H Q => (∃ i, xs = [.int i] ∧ Q (.int i) H) ∨ ∃ k, xs = [.bl k] ∧ Q (.int (if k then 1 else 0)) H
theorem cr_int1 {X : Cx} : CallR X (.type "int") rInt1 := call_int1
def dI2 {K : PySem.W.Frag} (f : Int → Int → Int) (cs : List (Cn K)) (Q : Cn K → Prop) : Prop := ∃ i j, cs = [.d (.int i), .d (.int j)] ∧ Q (.d (.int (f i j)))
instance call_max2C : CallD K rMax2 (dI2 fun i j => if j > i then j else i) := ⟨fun {H vs cs Ls Q Q'} hR hg q => by
  obtain ⟨i, j, rfl, h⟩ := hg
  cases hR with
  | cons r t =>
    cases t with
    | cons r2 t =>
      cases t
      exact ⟨i, j, by rw [r.1.int_inv, r2.1.int_inv], q _ H (.d (.int _)) [] .refl ⟨.int _, rfl⟩ (fun a z => nomatch z) h⟩⟩
instance call_min2C : CallD K rMin2 (dI2 fun i j => if j < i then j else i) := ⟨fun {H vs cs Ls Q Q'} hR hg q => by
  obtain ⟨i, j, rfl, h⟩ := hg
  cases hR with
  | cons r t =>
    cases t with
    | cons r2 t =>
      cases t
      exact ⟨i, j, by rw [r.1.int_inv, r2.1.int_inv], q _ H (.d (.int _)) [] .refl ⟨.int _, rfl⟩ (fun a z => nomatch z) h⟩⟩
def dI1c {K : PySem.W.Frag} (f : Int → Int) (cs : List (Cn K)) (Q : Cn K → Prop) : Prop := ∃ i, cs = [.d (.int i)] ∧ Q (.d (.int (f i)))
instance call_absC : CallD K rAbs (dI1c fun i => if i < 0 then -i else i) := ⟨fun {H vs cs Ls Q Q'} hR hg q => by
  obtain ⟨i, rfl, h⟩ := hg
  cases hR with
  | cons r t =>
    cases t
    exact ⟨i, by rw [r.1.int_inv], q _ H (.d (.int _)) [] .refl ⟨.int _, rfl⟩ (fun a z => nomatch z) h⟩⟩
def dInt1 {K : PySem.W.Frag} (cs : List (Cn K)) (Q : Cn K → Prop) : Prop := match cs with
  | [.d (.int i)] => Q (.d (.int i))
  | [.d (.bool b)] => Q (.d (.int (if b then 1 else 0)))
  | _ => False
instance call_intC : CallD K rInt1 dInt1 := ⟨fun {H vs cs Ls Q Q'} hR hg q => by
  unfold dInt1 at hg
  split at hg
  · rename_i i
    cases hR with
    | cons r t =>
      cases t
      exact .inl ⟨i, by rw [r.1.int_inv], q _ H (.d (.int _)) [] .refl ⟨.int _, rfl⟩ (fun a z => nomatch z) hg⟩
  · rename_i i
    cases hR with
    | cons r t =>
      cases t
      exact .inr ⟨i, by rw [r.1.bl_inv], q _ H (.d (.int _)) [] .refl ⟨.int _, rfl⟩ (fun a z => nomatch z) hg⟩
  · exact hg.elim⟩

/-! ### operators over contents -/
class OpC (K : PySem.W.Frag) (r : R2) (g : outParam (Cn K → Cn K → (Cn K → Prop) → Prop)) : Prop where
  run : ∀ {H : Hp} {u v : V} {x y : Cn K} {L L' : List Addr} {Q : VK} {Q' : Cn K → Prop}, Rep K H u x L → Rep K H v y L' → g x y Q' → (∀ w H' c G, Kp F0 H H' → Rep K H' w c G → (∀ a ∈ G, H a = none) → Q' c → Q w H') → r u v H Q
def aOpC {K : PySem.W.Frag} (g : Cn K → Cn K → (Cn K → Prop) → Prop) (a b : AE K) : AE K := fun s Q => a s fun r s1 => b s1 fun r2 s2 => ∃ x y, valOf s2 r = some x ∧ valOf s2 r2 = some y ∧ g x y fun c => Q (resOf c) s2
instance snd_opC {r : R2} {g : Cn K → Cn K → (Cn K → Prop) → Prop} [o : OpC K r g] [a : SndE K Ps ta fa] [b : SndE K Ps tb fb] : SndE K Ps (tOp r ta tb) (aOpC g fa fb) := ⟨fun {base M P H σ s fp Q Q'} rs h q => by
  refine a.run rs h fun v H1 r1 s1 G rs1 k1 e1 n1 h1 => ?_
  refine b.run rs1 h1 fun u H2 r2 s2 G2 rs2 k2 e2 n2 ⟨x, y, ex, ey, h2⟩ => ?_
  have e1' := e1.keep (fun a ha => rs.nof (n1 a ha)) k2
  refine o.run (rs2.val' e1' ex) (rs2.val' e2 ey) h2 fun w H3 c G3 k3 hr hn hq => ?_
  exact q w H3 (resOf c) s2 G3 (rs2.ext k3) ((k1.trans k2).trans (k3.mono fun _ z => z.elim)) (rr_res hr) (fun a ha => k1.non a (k2.non a (hn a ha))) hq⟩
def cIxL {K : PySem.W.Frag} : Cn K → Cn K → (Cn K → Prop) → Prop := fun x y Q => ∃ ds i d, x = .l ds ∧ y = .d (.int i) ∧ atI ds i = some d ∧ Q (.d d)
instance op_ixL : OpC K (rIxL K) cIxL := ⟨fun {H u v x y L L' Q Q'} hu hv h q => by
  obtain ⟨ds, i, d, rfl, rfl, e, h⟩ := h
  obtain ⟨p, us, rfl, hS, hA⟩ := rep_l hu
  obtain ⟨w, e1, e2⟩ := atI_fz hA e
  exact ⟨p, us, i, w, rfl, hv.1.int_inv, hS, e1, q _ _ (.d d) [] .refl ⟨e2, rfl⟩ (fun a z => nomatch z) h⟩⟩
def cCat {K : PySem.W.Frag} : Cn K → Cn K → (Cn K → Prop) → Prop := fun x y Q => ∃ ds es, x = .l ds ∧ y = .l es ∧ ds.length + es.length ≤ 1000 ∧ Q (.l (ds ++ es))
instance op_catL : OpC K rCat cCat := ⟨fun {H u v x y L L' Q Q'} hu hv h q => by
  obtain ⟨ds, es, rfl, rfl, hl, h⟩ := h
  obtain ⟨p, us, rfl, rfl, hp, hA⟩ := hu
  obtain ⟨p', ws, rfl, rfl, hp', hB⟩ := hv
  refine ⟨p, p', us, ws, rfl, rfl, hp, hp', by rw [hA.len, hB.len]; exact Nat.le_of_lt (small1000 hl), fun l hl => ?_⟩
  have k : Kp F0 H (upd H l (.lst (us ++ ws))) := .new hl _
  exact q _ _ (.l (ds ++ es)) [l] k ⟨l, _, rfl, rfl, upd_same, (hA.app hB).keep k⟩ (fun a ha => by rw [List.mem_singleton.mp ha]; exact hl) h⟩
/-- tuples joined -/
def dCat : D2 := fun x y Q => ∃ ds es, x = .tuple ds ∧ y = .tuple es ∧ ds.length + es.length ≤ 1000 ∧ Q (.tuple (ds ++ es))
instance op_catTu : OpD K (fCatD K) dCat := ⟨fun hu hv h q => by
  obtain ⟨ds, es, rfl, rfl, hl, h⟩ := h
  refine ⟨ds, es, hu.dp, hv.dp, hl, fun H' z e hz => q _ _ (.tuple (ds ++ es)) (.of_ext e) (fz_of hz ?_) h⟩
  have n1 := hu.nol
  have n2 := hv.nol
  rw [Fw.nol] at n1 n2 ⊢
  exact nols_app n1 n2⟩
/-- (x,) * n -/
def dRep : D2 := fun x y Q => ∃ d k, x = .tuple [d] ∧ y = .int k ∧ 1 ≤ k ∧ k ≤ 1000 ∧ Q (.tuple (List.replicate k.toNat d))
theorem fzA_rep {H : Hp} {v : V} {d : PyData} (h : Fz K H v d) (n : Nat) : FzA K H (List.replicate n v) (List.replicate n d) := by
  induction n with
  | zero => exact .nil
  | succ n ih => exact .cons h ih
instance op_repTu : OpD K (rRepA K) dRep := ⟨fun {H u v x y Q Q'} hu hv h q => by
  obtain ⟨d, k, rfl, rfl, h1, h2, h⟩ := h
  obtain ⟨a, us, rfl, hS, hA⟩ := hu.tup_inv
  cases hA with
  | @cons w ws _ _ r t =>
    cases t
    refine ⟨a, k, [w], rfl, hv.int_inv, hS, by simp, h1, h2, by show 1 ≤ 1000; decide, fun e => ?_, fun _ p hp => ?_⟩
    · subst e
      exact q _ _ _ .refl (.tup hS (.cons r .nil)) h
    · have kk : Kp F0 H (upd H p (.tup (List.replicate k.toNat [w]).flatten)) := .new hp _
      refine q _ _ (.tuple (List.replicate k.toNat d)) kk (.tup (SqT.of upd_same) ?_) h
      have key : ∀ H2, Fz K H2 w d → FzA K H2 (List.replicate k.toNat [w]).flatten (List.replicate k.toNat d) := fun H2 z => by
        rw [List.flatten_replicate_singleton]
        exact fzA_rep z _
      exact key _ (r.keep kk)⟩

/-! ### slices -/
abbrev AO (K : PySem.W.Frag) := Sto K → (Option Int → Sto K → Prop) → Prop
class SndO (K : PySem.W.Frag) (Ps : List Addr) (t : TO) (f : outParam (AO K)) : Prop where
  run : ∀ {base : Hp} {M : Addr → Prop} {P : Pn} {H : Hp} {σ : L2.St} {s : Sto K} {fp : Fp} {Q : Option Int → Hp → Prop} {Q' : Option Int → Sto K → Prop}, RS K Ps base M P H σ s fp → f s Q' →
    (∀ o H' s', RS K Ps base M P H' σ s' fp → Kp (inF fp) H H' → Q' o s' → Q o H') → t σ H Q
def aNoPart {K : PySem.W.Frag} : AO K := fun s Q => Q none s
def aPart {K : PySem.W.Frag} (a : AE K) : AO K := fun s Q => a s fun r s1 => ∃ i, r = .d (.int i) ∧ Q (some i) s1
instance snd_nopart : SndO K Ps tNoPart aNoPart := ⟨fun r h q => q none _ _ r .refl h⟩
instance snd_part [a : SndE K Ps te fe] : SndO K Ps (tPart te) (aPart fe) := ⟨fun {base M P H σ s fp Q Q'} rs h q =>
  a.run rs h fun v H1 r1 s1 G rs1 k1 e1 n1 ⟨i, er, h1⟩ => by
    subst er
    exact ⟨i, e1.1.int_inv, q _ _ _ rs1 k1 h1⟩⟩
class SlC (K : PySem.W.Frag) (r : V → Option Int → Option Int → Hp → VK → Prop) (g : outParam (Cn K → Option Int → Option Int → (Cn K → Prop) → Prop)) : Prop where
  run : ∀ {H : Hp} {u : V} {x : Cn K} {lo hi : Option Int} {L : List Addr} {Q : VK} {Q' : Cn K → Prop}, Rep K H u x L → g x lo hi Q' → (∀ w H' c G, Kp F0 H H' → Rep K H' w c G → (∀ a ∈ G, H a = none) → Q' c → Q w H') → r u lo hi H Q
def aSl {K : PySem.W.Frag} (g : Cn K → Option Int → Option Int → (Cn K → Prop) → Prop) (a : AE K) (l h : AO K) : AE K := fun s Q => a s fun r s1 => l s1 fun lo s2 => h s2 fun hi s3 => ∃ x, valOf s3 r = some x ∧ g x lo hi fun c => Q (resOf c) s3
instance snd_sl {r : V → Option Int → Option Int → Hp → VK → Prop} {g : Cn K → Option Int → Option Int → (Cn K → Prop) → Prop} {t1 t2 : TO} {f1 f2 : AO K} [o : SlC K r g] [a : SndE K Ps te fe] [b : SndO K Ps t1 f1] [c : SndO K Ps t2 f2] : SndE K Ps (tSl r te t1 t2) (aSl g fe f1 f2) := ⟨fun {base M P H σ s fp Q Q'} rs h q => by
  refine a.run rs h fun v H1 r1 s1 G rs1 k1 e1 n1 h1 => ?_
  refine b.run rs1 h1 fun lo H2 s2 rs2 k2 h2 => ?_
  refine c.run rs2 h2 fun hi H3 s3 rs3 k3 ⟨x, ex, h3⟩ => ?_
  have e3 := e1.keep (fun a ha => rs.nof (n1 a ha)) (k2.trans k3)
  refine o.run (rs3.val' e3 ex) h3 fun w H4 c G3 k4 hr hn hq => ?_
  exact q w H4 (resOf c) s3 G3 (rs3.ext k4) (((k1.trans k2).trans k3).trans (k4.mono fun _ z => z.elim)) (rr_res hr) (fun a ha => k1.non a (k2.non a (k3.non a (hn a ha)))) hq⟩
def cSlT {K : PySem.W.Frag} : Cn K → Option Int → Option Int → (Cn K → Prop) → Prop := fun x lo hi Q => ∃ ds, x = .d (.tuple ds) ∧ Q (.d (.tuple (cutF ds lo hi)))
instance sl_tupC : SlC K (fSlD K) cSlT := ⟨fun {H u x lo hi L Q Q'} hu h q => by
  obtain ⟨ds, rfl, h⟩ := h
  refine ⟨ds, hu.1.dp, fun H' z e hz => q _ _ (.d (.tuple (cutF ds lo hi))) [] (.of_ext e) ⟨fz_of hz ?_, rfl⟩ (fun a z => nomatch z) h⟩
  have n := hu.1.nol
  rw [Fw.nol] at n ⊢
  refine nols_sub n fun d hd => ?_
  unfold cutF at hd
  exact List.mem_of_mem_drop (List.mem_of_mem_take hd)⟩
def cutD (xs : List PyData) (lo hi : Option Int) : List PyData := cutF xs lo hi
def cSlL {K : PySem.W.Frag} : Cn K → Option Int → Option Int → (Cn K → Prop) → Prop := fun x lo hi Q => ∃ ds, x = .l ds ∧ Q (.l (cutF ds lo hi))
theorem cutV_fz {H : Hp} {us : List V} {ds : List PyData} (h : FzA K H us ds) (lo hi : Option Int) : FzA K H (cutV us lo hi) (cutF ds lo hi) := by
  unfold cutV cutF
  rw [h.len]
  exact (h.drop _).take _
instance sl_lstC : SlC K (rSlL K) cSlL := ⟨fun {H u x lo hi L Q Q'} hu h q => by
  obtain ⟨ds, rfl, h⟩ := h
  obtain ⟨p, us, rfl, hS, hA⟩ := rep_l hu
  refine ⟨p, us, rfl, hS, fun l hl => ?_⟩
  have k : Kp F0 H (upd H l (.lst (cutV us lo hi))) := .new hl _
  exact q _ _ (.l (cutF ds lo hi)) [l] k ⟨l, _, rfl, rfl, upd_same, (cutV_fz hA lo hi).keep k⟩ (fun a ha => by rw [List.mem_singleton.mp ha]; exact hl) h⟩
end
end Fw


namespace Fw
open PySem PySem.Spec PyProof.Rows L2 GxR Gx Gy RZ Mint
section
variable {K : PySem.W.Frag} {Ps : List Addr}
abbrev iD (es : List Int) : PyData := .tuple (es.map PyData.int)

/-! ### the combinators opened -/
variable {s : Sto K} {Q : RV K → Sto K → Prop} {Qa : List (RV K) → Sto K → Prop} {Qt : Bool → Sto K → Prop} {D : AEnds K} {a b : AE K} {l : AA K} {c d : AT K} {p q : AS K} {g : AG K}
@[simp] theorem x_var {i : Nat} : aVar i s Q ↔ ∃ c, cnAt s i = some c ∧ Q (rvOf i c) s := Iff.rfl
@[simp] theorem x_D {x : PyData} : aD x s Q ↔ Q (.d x) s := Iff.rfl
@[simp] theorem x_op {g : D2} : aOp g a b s Q ↔ a s fun r s1 => ∃ x, r = .d x ∧ b s1 fun r2 s2 => ∃ y, r2 = .d y ∧ g x y fun z => Q (.d z) s2 := Iff.rfl
@[simp] theorem x_II {f : Int → Int → Int} {x y : PyData} {R : PyData → Prop} : dII f x y R ↔ ∃ i j, x = .int i ∧ y = .int j ∧ R (.int (f i j)) := Iff.rfl
@[simp] theorem x_IB {f : Int → Int → Bool} {x y : PyData} {R : PyData → Prop} : dIB f x y R ↔ ∃ i j, x = .int i ∧ y = .int j ∧ R (.bool (f i j)) := Iff.rfl
@[simp] theorem x_IIc {C : Int → Int → Prop} {f : Int → Int → Int} {x y : PyData} {R : PyData → Prop} : dIIc C f x y R ↔ ∃ i j, x = .int i ∧ y = .int j ∧ C i j ∧ R (.int (f i j)) := Iff.rfl
@[simp] theorem x_eq {x y : PyData} {R : PyData → Prop} : dEq x y R ↔ ∃ b, eqS x y = some b ∧ R (.bool b) := Iff.rfl
@[simp] theorem x_ne {x y : PyData} {R : PyData → Prop} : dNe x y R ↔ ∃ b, eqS x y = some b ∧ R (.bool (!b)) := Iff.rfl
@[simp] theorem x_eqD {x y : PyData} {R : PyData → Prop} : dEqD x y R ↔ SeqAt.shaped x = true ∧ SeqAt.shaped y = true ∧ R (.bool (PyData.eqv x y)) := Iff.rfl
@[simp] theorem x_neD {x y : PyData} {R : PyData → Prop} : dNeD x y R ↔ SeqAt.shaped x = true ∧ SeqAt.shaped y = true ∧ R (.bool (!PyData.eqv x y)) := Iff.rfl
@[simp] theorem x_ix {x y : PyData} {R : PyData → Prop} : dIx x y R ↔ ∃ ds i d, x = .tuple ds ∧ y = .int i ∧ atI ds i = some d ∧ R d := Iff.rfl
@[simp] theorem x_cat {x y : PyData} {R : PyData → Prop} : dCat x y R ↔ ∃ ds es, x = .tuple ds ∧ y = .tuple es ∧ ds.length + es.length ≤ 1000 ∧ R (.tuple (ds ++ es)) := Iff.rfl
@[simp] theorem x_rep {x y : PyData} {R : PyData → Prop} : dRep x y R ↔ ∃ d k, x = .tuple [d] ∧ y = .int k ∧ 1 ≤ k ∧ k ≤ 1000 ∧ R (.tuple (List.replicate k.toNat d)) := Iff.rfl
@[simp] theorem x_un {g : PyData → (PyData → Prop) → Prop} : aUn g a s Q ↔ a s fun r s1 => ∃ x, r = .d x ∧ g x fun z => Q (.d z) s1 := Iff.rfl
@[simp] theorem x_I1 {f : Int → Int} {x : PyData} {R : PyData → Prop} : dI1 f x R ↔ ∃ i, x = .int i ∧ R (.int (f i)) := Iff.rfl
@[simp] theorem x_isN : aIsN a s Q ↔ a s fun r s1 => ∃ c, valOf s1 r = some c ∧ Q (.d (.bool (isNonC c))) s1 := Iff.rfl
@[simp] theorem x_notN : aNotN a s Q ↔ a s fun r s1 => ∃ c, valOf s1 r = some c ∧ Q (.d (.bool (!isNonC c))) s1 := Iff.rfl
def rB (r : RV K) (T : Bool → Prop) : Prop := ∃ b, r = .d (.bool b) ∧ T b
@[simp] theorem rB_b {b : Bool} {T : Bool → Prop} : rB (K := K) (.d (.bool b)) T ↔ T b := ⟨fun ⟨_, e, h⟩ => by cases e; exact h, fun h => ⟨b, rfl, h⟩⟩
@[simp] theorem x_test : aTest a s Qt ↔ a s fun r s1 => rB r fun b => Qt b s1 := Iff.rfl
@[simp] theorem x_and : aAnd c d s Qt ↔ c s fun k s1 => if k = true then d s1 Qt else Qt false s1 := Iff.rfl
@[simp] theorem x_or : aOr c d s Qt ↔ c s fun k s1 => if k = true then Qt true s1 else d s1 Qt := Iff.rfl
@[simp] theorem x_not : aNot c s Qt ↔ c s fun k s1 => Qt (!k) s1 := Iff.rfl
@[simp] theorem x_andV : aAndV a b s Q ↔ a s fun r s1 => rB r fun c => if c = true then b s1 Q else Q (.d (.bool false)) s1 := Iff.rfl
@[simp] theorem x_orV : aOrV a b s Q ↔ a s fun r s1 => rB r fun c => if c = true then Q (.d (.bool true)) s1 else b s1 Q := Iff.rfl
@[simp] theorem x_notV : aNotV a s Q ↔ a s fun r s1 => rB r fun c => Q (.d (.bool (!c))) s1 := Iff.rfl
@[simp] theorem x_ifE : aIfE c a b s Q ↔ c s fun k s1 => if k = true then a s1 Q else b s1 Q := Iff.rfl
@[simp] theorem x_nil : aNil s Qa ↔ Qa [] s := Iff.rfl
@[simp] theorem x_cons : aCons a l s Qa ↔ a s fun r s1 => l s1 fun rs s2 => Qa (r :: rs) s2 := Iff.rfl
@[simp] theorem x_cb {g : List (Cn K) → (Cn K → Prop) → Prop} : aCB g l s Q ↔ l s fun rs s1 => ∃ cs, valsOf s1 rs = some cs ∧ g cs fun c => Q (resOf c) s1 := Iff.rfl
@[simp] theorem x_tup : aTup l s Q ↔ l s fun rs s1 => rs.length ≤ 1000 ∧ ∃ ds, datas rs = some ds ∧ Q (.d (.tuple ds)) s1 := Iff.rfl
@[simp] theorem x_lst : aLst l s Q ↔ l s fun rs s1 => rs.length ≤ 1000 ∧ ∃ ds, datas rs = some ds ∧ Q (.n (.l ds)) s1 := Iff.rfl
@[simp] theorem x_call {g : GF K} : aCall g l s Q ↔ l s fun rs s1 => nodupS rs = true ∧ ∃ cs, valsOf s1 rs = some cs ∧ g cs fun c cs' => Q (resOf c) (putBack s1 rs cs') := Iff.rfl
@[simp] theorem x_isa {g : PyData → Bool} : aIsa g a s Q ↔ a s fun r s1 => ∃ c, valOf s1 r = some c ∧ match c with
  | .d x => Q (.d (.bool (g x))) s1
  | .l xs => Q (.d (.bool (g (.list xs)))) s1
  | _ => False := Iff.rfl
@[simp] theorem x_opC {g : Cn K → Cn K → (Cn K → Prop) → Prop} : aOpC g a b s Q ↔ a s fun r s1 => b s1 fun r2 s2 => ∃ x y, valOf s2 r = some x ∧ valOf s2 r2 = some y ∧ g x y fun c => Q (resOf c) s2 := Iff.rfl
@[simp] theorem x_ixL {x y : Cn K} {R : Cn K → Prop} : cIxL x y R ↔ ∃ ds i d, x = .l ds ∧ y = .d (.int i) ∧ atI ds i = some d ∧ R (.d d) := Iff.rfl
@[simp] theorem x_catL {x y : Cn K} {R : Cn K → Prop} : cCat x y R ↔ ∃ ds es, x = .l ds ∧ y = .l es ∧ ds.length + es.length ≤ 1000 ∧ R (.l (ds ++ es)) := Iff.rfl
@[simp] theorem x_sl {g : Cn K → Option Int → Option Int → (Cn K → Prop) → Prop} {lo hi : AO K} : aSl g a lo hi s Q ↔ a s fun r s1 => lo s1 fun lo s2 => hi s2 fun hi s3 => ∃ x, valOf s3 r = some x ∧ g x lo hi fun c => Q (resOf c) s3 := Iff.rfl
@[simp] theorem x_noPart {R : Option Int → Sto K → Prop} : aNoPart s R ↔ R none s := Iff.rfl
@[simp] theorem x_part {R : Option Int → Sto K → Prop} : aPart a s R ↔ a s fun r s1 => ∃ i, r = .d (.int i) ∧ R (some i) s1 := Iff.rfl
@[simp] theorem x_slT {x : Cn K} {lo hi : Option Int} {R : Cn K → Prop} : cSlT x lo hi R ↔ ∃ ds, x = .d (.tuple ds) ∧ R (.d (.tuple (cutF ds lo hi))) := Iff.rfl
@[simp] theorem x_slL {x : Cn K} {lo hi : Option Int} {R : Cn K → Prop} : cSlL x lo hi R ↔ ∃ ds, x = .l ds ∧ R (.l (cutF ds lo hi)) := Iff.rfl
@[simp] theorem x_len {cs : List (Cn K)} {R : Cn K → Prop} : dLen cs R ↔ ∃ c n, cs = [c] ∧ lenC c = some n ∧ R (.d (.int n)) := Iff.rfl
@[simp] theorem x_tupOf {cs : List (Cn K)} {R : Cn K → Prop} : dTupOf cs R ↔ ∃ c ds, cs = [c] ∧ itemsC c = some ds ∧ R (.d (.tuple ds)) := Iff.rfl
@[simp] theorem x_listOf {cs : List (Cn K)} {R : Cn K → Prop} : dListOf cs R ↔ ∃ c ds, cs = [c] ∧ itemsC c = some ds ∧ R (.l ds) := Iff.rfl
@[simp] theorem x_I2 {f : Int → Int → Int} {cs : List (Cn K)} {R : Cn K → Prop} : dI2 f cs R ↔ ∃ i j, cs = [.d (.int i), .d (.int j)] ∧ R (.d (.int (f i j))) := Iff.rfl
@[simp] theorem x_I1c {f : Int → Int} {cs : List (Cn K)} {R : Cn K → Prop} : dI1c f cs R ↔ ∃ i, cs = [.d (.int i)] ∧ R (.d (.int (f i))) := Iff.rfl
@[simp] theorem x_sum {cs : List (Cn K)} {R : Cn K → Prop} : dSum cs R ↔ ∃ ds ns, cs = [.l ds] ∧ intsOf ds = some ns ∧ R (.d (.int ns.sum)) := Iff.rfl
@[simp] theorem x_allL {cs : List (Cn K)} {R : Cn K → Prop} : dAllL cs R ↔ ∃ ds ns, cs = [.l ds] ∧ boolsOf ds = some ns ∧ R (.d (.bool (ns.all id))) := Iff.rfl
@[simp] theorem x_anyL {cs : List (Cn K)} {R : Cn K → Prop} : dAnyL cs R ↔ ∃ ds ns, cs = [.l ds] ∧ boolsOf ds = some ns ∧ R (.d (.bool (ns.any id))) := Iff.rfl
@[simp] theorem x_yes : aYes s Qt ↔ Qt true s := Iff.rfl
@[simp] theorem x_lc {vs ls : List Nat} {i : AI K} {g : AG K} {ft : AT K} {fe : AE K} : aLc vs ls i g ft fe s Q ↔ subL ls vs = true ∧ i s fun ds gd fr s1 => blanks s1 vs = true ∧ compF vs gd g ft fe (fun acc s2 => Q (.n (.l acc)) s2) ds [] (wipeS s1 vs) := Iff.rfl
@[simp] theorem x_gen {z : Bool} {P : Addr} {js : List (Option Nat)} {i : AI K} {g : AG K} {fe : AE K} : aGen Ps z P js i g fe s Q ↔ i s fun ds gd fr s1 => gd s1 ∧ P ∈ Ps ∧ genF z g fe (fun b => Q (.d (.bool b)) s1) ds (captS js s1) := Iff.rfl
@[simp] theorem x_walk {g : List (Cn K) → (List PyData → Prop) → Prop} {R : List PyData → (Sto K → Prop) → Bool → Sto K → Prop} : aWalk g l s R ↔ l s fun rs s1 => ∃ cs ds, valsOf s1 rs = some cs ∧ g cs (fun ds' => ds' = ds) ∧ R ds (fun s2 => valsOf s2 rs = some cs) (noSlot rs) s1 := Iff.rfl
@[simp] theorem x_walkE {g : Cn K → (List PyData → Prop) → Prop} {R : List PyData → (Sto K → Prop) → Bool → Sto K → Prop} : aWalkE g a s R ↔ a s fun r s1 => ∃ c ds, valOf s1 r = some c ∧ g c (fun ds' => ds' = ds) ∧ R ds (fun s2 => valOf s2 r = some c) (noSlot [r]) s1 := Iff.rfl
@[simp] theorem x_wTup {c : Cn K} {R : List PyData → Prop} : wTup c R ↔ ∃ ds, c = .d (.tuple ds) ∧ R ds := Iff.rfl
@[simp] theorem x_wLst {c : Cn K} {R : List PyData → Prop} : wLst c R ↔ ∃ ds, c = .l ds ∧ R ds := Iff.rfl
@[simp] theorem x_wStr {c : Cn K} {R : List PyData → Prop} : wStr c R ↔ ∃ z : Str, c = .d (.str z) ∧ R (z.cps.toList.map fun x => .str ⟨#[x]⟩) := Iff.rfl
@[simp] theorem x_wRng1 {cs : List (Cn K)} {R : List PyData → Prop} : wRng1 cs R ↔ ∃ j : Int, cs = [.d (.int j)] ∧ R (rangeD 0 j.toNat) ∧ -(2 ^ 62) ≤ j ∧ j < 2 ^ 62 := ⟨fun ⟨j, a, b, c, d⟩ => ⟨j, a, d, b, c⟩, fun ⟨j, a, d, b, c⟩ => ⟨j, a, b, c, d⟩⟩
@[simp] theorem x_wRng2 {cs : List (Cn K)} {R : List PyData → Prop} : wRng2 cs R ↔ ∃ i j : Int, cs = [.d (.int i), .d (.int j)] ∧ R (rangeD i (j - i).toNat) ∧ (-(2 ^ 62) ≤ i ∧ i < 2 ^ 62 ∧ -(2 ^ 62) ≤ j ∧ j < 2 ^ 62) := ⟨fun ⟨i, j, a, b, d⟩ => ⟨i, j, a, d, b⟩, fun ⟨i, j, a, d, b⟩ => ⟨i, j, a, b, d⟩⟩
@[simp] theorem x_wZipT {xs ys : List PyData} {R : List PyData → Prop} : wZip (K := K) [.d (.tuple xs), .d (.tuple ys)] R ↔ R (zipD xs ys) := Iff.rfl
@[simp] theorem x_wZipL {xs ys : List PyData} {R : List PyData → Prop} : wZip (K := K) [.l xs, .l ys] R ↔ R (zipD xs ys) := Iff.rfl
@[simp] theorem x_next : aNext D s ↔ D.nx s := Iff.rfl
@[simp] theorem x_seq : aSeq p q D s ↔ p { D with nx := q D } s := Iff.rfl
@[simp] theorem x_break : aBreak D s ↔ D.bk s := Iff.rfl
@[simp] theorem x_cont : aCont D s ↔ D.ct s := Iff.rfl
@[simp] theorem x_never : aNever D s ↔ False := Iff.rfl
@[simp] theorem x_drop : aDrop a D s ↔ a s fun _ s1 => D.nx s1 := Iff.rfl
@[simp] theorem x_ret : aRet a D s ↔ a s fun r s1 => ∃ p, retOf s1 r = some p ∧ D.rt p.1 p.2 := Iff.rfl
@[simp] theorem x_retN : aRetN D s ↔ D.rt (.d .none) s := Iff.rfl
@[simp] theorem x_ifS : aIfS c p q D s ↔ c s fun k s1 => if k = true then p D s1 else q D s1 := Iff.rfl
@[simp] theorem x_nameD {i : Nat} {x : PyData} {R : Sto K → Prop} : aName i (.d x) s R ↔ canSet s i = true ∧ R (s.set i (.f (.d x))) := Iff.rfl
@[simp] theorem x_nameN {i : Nat} {c : Cn K} {R : Sto K → Prop} : aName i (.n c) s R ↔ canSet s i = true ∧ R (s.set i (.f c)) := Iff.rfl
@[simp] theorem x_nameS {i j : Nat} {R : Sto K → Prop} : aName i (.s j) s R ↔ False := Iff.rfl
@[simp] theorem x_gnil {R : Sto K → Prop} : aGNil [] s R ↔ R s := ⟨fun h => h.2, fun h => ⟨rfl, h⟩⟩
@[simp] theorem x_gcons {gs : List PyData → Sto K → (Sto K → Prop) → Prop} {d : PyData} {r : List PyData} {R : Sto K → Prop} : aGCons g gs (d :: r) s R ↔ g (.d d) s fun s1 => gs r s1 R := ⟨fun ⟨_, _, e, h⟩ => by cases e; exact h, fun h => ⟨_, _, rfl, h⟩⟩
@[simp] theorem x_gtup {n : Nat} {gs : List PyData → Sto K → (Sto K → Prop) → Prop} {ds : List PyData} {R : Sto K → Prop} : aGTup n gs (.d (.tuple ds)) s R ↔ ds.length = n ∧ gs ds s R := ⟨fun ⟨_, e, h⟩ => by cases e; exact h, fun h => ⟨_, rfl, h⟩⟩
@[simp] theorem x_asg : aAsg a g D s ↔ a s fun r s1 => g r s1 D.nx := Iff.rfl
@[simp] theorem x_aug {i : Nat} {g : D2} : aAug i a g D s ↔ ∃ x, cnAt s i = some (.d x) ∧ a s fun r s1 => ∃ y, r = .d y ∧ g x y fun z => canSet s1 i = true ∧ D.nx (s1.set i (.f (.d z))) := Iff.rfl
@[simp] theorem x_for {i : AI K} : aFor i g p D s ↔ i s fun ds gd fr s1 => fr = true ∧ forF gd g p D ds s1 := Iff.rfl
@[simp] theorem x_app {i : Nat} : aApp i a D s ↔ (∃ ds, cnAt s i = some (.l ds)) ∧ a s fun r s1 => ∃ ds y, cnAt s1 i = some (.l ds) ∧ r = .d y ∧ ds.length < 1000 ∧ D.nx (setC s1 i (.l (ds ++ [y]))) := Iff.rfl

/-! ### the store opened -/
@[simp] theorem cnAt_zero {x : SC K} {r : Sto K} : cnAt (x :: r) 0 = x.cn := rfl
@[simp] theorem cnAt_succ {x : SC K} {r : Sto K} {i : Nat} : cnAt (x :: r) (i + 1) = cnAt r i := rfl
@[simp] theorem cn_e : (SC.e : SC K).cn = none := rfl
@[simp] theorem cn_f {c : Cn K} : (SC.f c).cn = some c := rfl
@[simp] theorem cn_io {c : Cn K} : (SC.io c).cn = some c := rfl
@[simp] theorem rv_d {i : Nat} {x : PyData} : rvOf (K := K) i (.d x) = .d x := rfl
@[simp] theorem rv_l {i : Nat} {x : List PyData} : rvOf (K := K) i (.l x) = .s i := rfl
@[simp] theorem rv_k {i : Nat} {x : List (Key × PyData)} : rvOf (K := K) i (.k x) = .s i := rfl
@[simp] theorem rv_t {i : Nat} {x : List (List Key × PyData)} : rvOf (K := K) i (.t x) = .s i := rfl
@[simp] theorem rv_x {i : Nat} {x : Own K} : rvOf (K := K) i (.x x) = .s i := rfl
@[simp] theorem val_d {x : PyData} : valOf s (.d x) = some (.d x) := rfl
@[simp] theorem val_n {x : Cn K} : valOf s (.n x) = some x := rfl
@[simp] theorem val_s {i : Nat} : valOf s (.s i) = cnAt s i := rfl
@[simp] theorem res_d {x : PyData} : resOf (K := K) (.d x) = .d x := rfl
@[simp] theorem res_l {x : List PyData} : resOf (K := K) (.l x) = .n (.l x) := rfl
@[simp] theorem res_k {x : List (Key × PyData)} : resOf (K := K) (.k x) = .n (.k x) := rfl
@[simp] theorem res_t {x : List (List Key × PyData)} : resOf (K := K) (.t x) = .n (.t x) := rfl
@[simp] theorem res_x {x : Own K} : resOf (K := K) (.x x) = .n (.x x) := rfl
@[simp] theorem vals_nil : valsOf s [] = some [] := rfl
@[simp] theorem vals_cons {r : RV K} {rs : List (RV K)} : valsOf s (r :: rs) = (valOf s r).bind fun c => (valsOf s rs).map fun cs => c :: cs := by
  rw [valsOf]
  cases valOf s r <;> cases valsOf s rs <;> rfl
@[simp] theorem datas_nil : datas (K := K) [] = some [] := rfl
@[simp] theorem datas_cons {x : PyData} {rs : List (RV K)} : datas (.d x :: rs) = (datas rs).map (x :: ·) := rfl
@[simp] theorem nod_nil : nodupS (K := K) [] = true := rfl
@[simp] theorem nod_d {x : PyData} {rs : List (RV K)} : nodupS (.d x :: rs) = nodupS rs := rfl
@[simp] theorem nod_n {x : Cn K} {rs : List (RV K)} : nodupS (.n x :: rs) = nodupS rs := rfl
@[simp] theorem nod_s {i : Nat} {rs : List (RV K)} : nodupS (.s i :: rs) = (!hasS i rs && nodupS rs) := rfl
@[simp] theorem has_nil {j : Nat} : hasS (K := K) j [] = false := rfl
@[simp] theorem has_d {j : Nat} {x : PyData} {rs : List (RV K)} : hasS j (.d x :: rs) = hasS j rs := rfl
@[simp] theorem has_n {j : Nat} {x : Cn K} {rs : List (RV K)} : hasS j (.n x :: rs) = hasS j rs := rfl
@[simp] theorem has_s {j i : Nat} {rs : List (RV K)} : hasS j (.s i :: rs) = (decide (i = j) || hasS j rs) := rfl
@[simp] theorem nos_nil : noSlot (K := K) [] = true := rfl
@[simp] theorem nos_d {x : PyData} {rs : List (RV K)} : noSlot (.d x :: rs) = noSlot rs := rfl
@[simp] theorem nos_n {x : Cn K} {rs : List (RV K)} : noSlot (.n x :: rs) = noSlot rs := rfl
@[simp] theorem nos_s {i : Nat} {rs : List (RV K)} : noSlot (.s i :: rs) = false := rfl
@[simp] theorem pb_nil {cs : List (Cn K)} : putBack s [] cs = s := by cases cs <;> rfl
@[simp] theorem pb_d {x : PyData} {rs : List (RV K)} {c : Cn K} {cs : List (Cn K)} : putBack s (.d x :: rs) (c :: cs) = putBack s rs cs := by
  rw [putBack]
  exact fun _ z => nomatch z
@[simp] theorem pb_n {x : Cn K} {rs : List (RV K)} {c : Cn K} {cs : List (Cn K)} : putBack s (.n x :: rs) (c :: cs) = putBack s rs cs := by
  rw [putBack]
  exact fun _ z => nomatch z
@[simp] theorem pb_s {i : Nat} {rs : List (RV K)} {c : Cn K} {cs : List (Cn K)} : putBack s (.s i :: rs) (c :: cs) = putBack (setC s i c) rs cs := by rw [putBack]
@[simp] theorem setC_nil {i : Nat} {c : Cn K} : setC [] i c = [] := by cases i <;> rfl
@[simp] theorem setC_zero {x : SC K} {r : Sto K} {c : Cn K} : setC (x :: r) 0 c = x.with c :: r := rfl
@[simp] theorem setC_succ {x : SC K} {r : Sto K} {i : Nat} {c : Cn K} : setC (x :: r) (i + 1) c = x :: setC r i c := rfl
@[simp] theorem with_f {c c' : Cn K} : (SC.f c').with c = .f c := rfl
@[simp] theorem with_io {c c' : Cn K} : (SC.io c').with c = .io c := rfl
@[simp] theorem with_e {c : Cn K} : SC.e.with c = .e := rfl
@[simp] theorem can_zero_e {r : Sto K} : canSet (.e :: r) 0 = true := rfl
@[simp] theorem can_zero_f {r : Sto K} {c : Cn K} : canSet (.f c :: r) 0 = true := rfl
@[simp] theorem can_succ {x : SC K} {r : Sto K} {i : Nat} : canSet (x :: r) (i + 1) = canSet r i := rfl
@[simp] theorem bl_zero_e {r : Sto K} : blank (.e :: r) 0 = true := rfl
@[simp] theorem bl_zero_f {r : Sto K} {x : PyData} : blank (.f (.d x) :: r) 0 = true := rfl
@[simp] theorem bl_succ {x : SC K} {r : Sto K} {i : Nat} : blank (x :: r) (i + 1) = blank r i := rfl
@[simp] theorem bls_nil : blanks s [] = true := rfl
@[simp] theorem bls_cons {v : Nat} {vs : List Nat} : blanks s (v :: vs) = (blank s v && blanks s vs) := rfl
@[simp] theorem wp_nil : wipeS s [] = s := rfl
@[simp] theorem wp_cons {v : Nat} {vs : List Nat} : wipeS s (v :: vs) = (wipeS s vs).set v .e := rfl
@[simp] theorem sub_nil {vs : List Nat} : subL [] vs = true := rfl
@[simp] theorem sub_cons {l : Nat} {ls vs : List Nat} : subL (l :: ls) vs = (vs.contains l && subL ls vs) := rfl
@[simp] theorem ret_d {x : PyData} : retOf s (.d x) = some (.d x, s) := rfl
@[simp] theorem ret_n {x : Cn K} : retOf s (.n x) = some (x, s) := rfl
@[simp] theorem ret_s {i : Nat} : retOf s (.s i) = if canSet s i = true then (cnAt s i).map fun c => (c, s.set i .e) else none := rfl
@[simp] theorem init_eq {n : Nat} {cs : List (Cn K)} : initS n cs = cs.map initC ++ List.replicate (n - cs.length) .e := rfl
@[simp] theorem init_d {x : PyData} : initC (K := K) (.d x) = .f (.d x) := rfl
@[simp] theorem init_l {x : List PyData} : initC (K := K) (.l x) = .io (.l x) := rfl
@[simp] theorem init_k {x : List (Key × PyData)} : initC (K := K) (.k x) = .io (.k x) := rfl
@[simp] theorem init_t {x : List (List Key × PyData)} : initC (K := K) (.t x) = .io (.t x) := rfl
@[simp] theorem init_x {x : Own K} : initC (K := K) (.x x) = .io (.x x) := rfl
@[simp] theorem outs_nil {i : Nat} : outs s i [] = [] := rfl
@[simp] theorem outs_d {i : Nat} {x : PyData} {cs : List (Cn K)} : outs s i (.d x :: cs) = .d x :: outs s (i + 1) cs := rfl
@[simp] theorem outs_l {i : Nat} {x : List PyData} {cs : List (Cn K)} : outs s i (.l x :: cs) = (cnAt s i).getD (.l x) :: outs s (i + 1) cs := rfl
@[simp] theorem outs_k {i : Nat} {x : List (Key × PyData)} {cs : List (Cn K)} : outs s i (.k x :: cs) = (cnAt s i).getD (.k x) :: outs s (i + 1) cs := rfl
@[simp] theorem outs_t {i : Nat} {x : List (List Key × PyData)} {cs : List (Cn K)} : outs s i (.t x :: cs) = (cnAt s i).getD (.t x) :: outs s (i + 1) cs := rfl
@[simp] theorem outs_x {i : Nat} {x : Own K} {cs : List (Cn K)} : outs s i (.x x :: cs) = (cnAt s i).getD (.x x) :: outs s (i + 1) cs := rfl
@[simp] theorem it_t {ds : List PyData} : itemsC (K := K) (.d (.tuple ds)) = some ds := rfl
@[simp] theorem it_l {ds : List PyData} : itemsC (K := K) (.l ds) = some ds := rfl
@[simp] theorem len_t {ds : List PyData} : lenC (K := K) (.d (.tuple ds)) = some ds.length := rfl
@[simp] theorem len_l {ds : List PyData} : lenC (K := K) (.l ds) = some ds.length := rfl
@[simp] theorem eqS_int {i j : Int} : eqS (.int i) (.int j) = some (decide (i = j)) := rfl
@[simp] theorem eqS_str {i j : Str} : eqS (.str i) (.str j) = some (decide (i = j)) := rfl
@[simp] theorem eqS_bool {i j : Bool} : eqS (.bool i) (.bool j) = some (decide (i = j)) := rfl
@[simp] theorem nonC_n : isNonC (K := K) (.d .none) = true := rfl
@[simp] theorem nonC_t {x : List PyData} : isNonC (K := K) (.d (.tuple x)) = false := rfl
@[simp] theorem nonC_i {x : Int} : isNonC (K := K) (.d (.int x)) = false := rfl
@[simp] theorem nonC_s {x : Str} : isNonC (K := K) (.d (.str x)) = false := rfl
@[simp] theorem nonC_l {x : List PyData} : isNonC (K := K) (.l x) = false := rfl
@[simp] theorem nonC_k {x : List (Key × PyData)} : isNonC (K := K) (.k x) = false := rfl
@[simp] theorem intsOf_map {ns : List Int} : intsOf (ns.map PyData.int) = some ns := by
  induction ns with
  | nil => rfl
  | cons n ns ih => simp [intsOf, ih]
@[simp] theorem boolsOf_map {ns : List Bool} : boolsOf (ns.map PyData.bool) = some ns := by
  induction ns with
  | nil => rfl
  | cons n ns ih => simp [boolsOf, ih]
@[simp] theorem capt_nil : captS [] s = [] := rfl
@[simp] theorem capt_none {js : List (Option Nat)} : captS (none :: js) s = .e :: captS js s := rfl
@[simp] theorem capt_some {j : Nat} {js : List (Option Nat)} : captS (some j :: js) s = (match cnAt s j with
    | some (.d x) => .f (.d x)
    | _ => .e) :: captS js s := rfl
/-- the places of a tuple that is written out -/
@[simp] theorem atI_zero {α : Type} {x : α} {xs : List α} : atI (x :: xs) 0 = some x := by
  unfold atI ixN
  simp
theorem atI_nat {α : Type} {xs : List α} {n : Nat} {x : α} (h : xs[n]? = some x) : atI xs (n : Int) = some x := by
  have hl := (List.getElem?_eq_some_iff.mp h).1
  unfold atI ixN
  have h0 : (0 : Int) ≤ (n : Nat) := Int.natCast_nonneg n
  have h1 : ((n : Nat) : Int) < (xs.length : Nat) := by omega
  rw [if_pos h0, if_pos h1]
  show xs[(n : Int).toNat]? = some x
  rw [Int.toNat_natCast]
  exact h
@[simp] theorem atI_one {α : Type} {x y : α} {xs : List α} : atI (x :: y :: xs) 1 = some y := atI_nat (n := 1) rfl
@[simp] theorem atI_two {α : Type} {x y z : α} {xs : List α} : atI (x :: y :: z :: xs) 2 = some z := atI_nat (n := 2) rfl
@[simp] theorem atI_three {α : Type} {x y z u : α} {xs : List α} : atI (x :: y :: z :: u :: xs) 3 = some u := atI_nat (n := 3) rfl
@[simp] theorem atI_four {α : Type} {x y z u v : α} {xs : List α} : atI (x :: y :: z :: u :: v :: xs) 4 = some v := atI_nat (n := 4) rfl

@[simp] theorem atI_five {α : Type} {x y z u v t : α} {xs : List α} : atI (x :: y :: z :: u :: v :: t :: xs) 5 = some t := atI_nat (n := 5) rfl

@[simp] theorem foldl_count {α : Type} : ∀ (xs : List α) (b : Nat), xs.foldl (fun b _ => b + 1) b = b + xs.length
  | [], b => rfl
  | x :: xs, b => by
    rw [List.foldl_cons, foldl_count xs, List.length_cons]
    omega
/-- a slot that may be stored to -/
def blS {K : PySem.W.Frag} : SC K → Bool
  | .e => true
  | .f (.d _) => true
  | _ => false
@[simp] theorem blS_e : blS (K := K) .e = true := rfl
@[simp] theorem blS_f {x : PyData} : blS (K := K) (.f (.d x)) = true := rfl
theorem can_bl {c : SC K} {r : Sto K} (h : blS c = true) : canSet (c :: r) 0 = true := by
  cases c with
  | e => rfl
  | f c => rfl
  | io c => cases h
@[simp] theorem bl_bl {c : SC K} {r : Sto K} : blank (c :: r) 0 = blS c := by
  cases c with
  | e => rfl
  | f c => cases c <;> rfl
  | io c => rfl

/-! ### loops over typed lists -/
theorem zipD_map {α β : Type} (e : α → PyData) (e' : β → PyData) (xs : List α) (ys : List β) : zipD (xs.map e) (ys.map e') = (xs.zip ys).map fun p => .tuple [e p.1, e' p.2] := by
  unfold zipD List.zip
  rw [List.zipWith_map, List.map_zipWith]
theorem compF_of {α : Type} {vs : List Nat} {gd : Sto K → Prop} {ft : AT K} {fe : AE K} {R : List PyData → Sto K → Prop} (enc : α → PyData) (f : α → Option PyData) (hg : gd s) : ∀ (xs : List α) (acc : List PyData), acc.length + xs.length ≤ 1000 →
    (∀ x ∈ xs, ∀ T : Option PyData → Sto K → Prop, (∀ s4, blanks s4 vs = true → wipeS s4 vs = s → T (f x) s4) → g (.d (enc x)) s fun s2 => ft s2 fun b s3 => if b = true then fe s3 fun r s4 => ∃ y, r = .d y ∧ T (some y) s4 else T none s3) →
    R (acc ++ xs.filterMap f) s → compF vs gd g ft fe R (xs.map enc) acc s
  | [], acc, hl, hs, h => ⟨hg, by simpa using h⟩
  | x :: xs, acc, hl, hs, h => by
    refine ⟨hg, ?_⟩
    have hl' : acc.length + (xs.length + 1) ≤ 1000 := by simpa using hl
    refine hs x List.mem_cons_self (fun o s4 => match o with
      | some y => acc.length < 1000 ∧ blanks s4 vs = true ∧ compF vs gd g ft fe R (xs.map enc) (acc ++ [y]) (wipeS s4 vs)
      | none => blanks s4 vs = true ∧ compF vs gd g ft fe R (xs.map enc) acc (wipeS s4 vs)) fun s4 hb hw => ?_
    rw [List.filterMap_cons] at h
    cases e2 : f x with
    | none =>
      rw [e2] at h
      refine ⟨hb, ?_⟩
      rw [hw]
      exact compF_of enc f hg xs _ (by omega) (fun y hy => hs y (List.mem_cons_of_mem _ hy)) h
    | some y =>
      rw [e2] at h
      refine ⟨by omega, hb, ?_⟩
      rw [hw]
      exact compF_of enc f hg xs _ (by rw [List.length_append]; simp; omega) (fun y hy => hs y (List.mem_cons_of_mem _ hy)) (by simpa using h)
/-- .. each gives one -/
theorem compF_map {α : Type} {vs : List Nat} {gd : Sto K → Prop} {fe : AE K} {R : List PyData → Sto K → Prop} (enc f : α → PyData) (xs : List α) (hg : gd s) (hl : xs.length ≤ 1000)
    (hs : ∀ x ∈ xs, ∀ T : RV K → Sto K → Prop, (∀ s4, blanks s4 vs = true → wipeS s4 vs = s → T (.d (f x)) s4) → g (.d (enc x)) s fun s2 => fe s2 T) (h : R (xs.map f) s) : compF vs gd g aYes fe R (xs.map enc) [] s := by
  refine compF_of enc (fun x => some (f x)) hg xs [] (by simpa using hl) (fun x hx T hT => ?_) (by simpa using h)
  simp only [x_yes, if_true]
  exact hs x hx _ fun s4 h1 h2 => ⟨_, rfl, hT s4 h1 h2⟩
/-- all(..): each is asked -/
theorem genF_all {α : Type} {fe : AE K} {R : Bool → Prop} (I : Sto K → Prop) (enc : α → PyData) (p : α → Bool) : ∀ (xs : List α) (s : Sto K), I s →
    (∀ s, I s → ∀ x ∈ xs, ∀ T : RV K → Sto K → Prop, (∀ s', I s' → T (.d (.bool (p x))) s') → g (.d (enc x)) s fun s1 => fe s1 T) → R (xs.all p) → genF true g fe R (xs.map enc) s
  | [], s, _, _, h => h
  | x :: xs, s, hI, hs, h => by
    refine hs s hI x List.mem_cons_self _ fun s' hI' => ⟨p x, rfl, ?_⟩
    rw [List.all_cons] at h
    cases e : p x with
    | true =>
      rw [e, Bool.true_and] at h
      rw [if_pos rfl]
      exact genF_all I enc p xs s' hI' (fun s hI y hy => hs s hI y (List.mem_cons_of_mem _ hy)) h
    | false =>
      rw [e, Bool.false_and] at h
      rw [if_neg Bool.false_ne_true]
      exact h
theorem genF_any {α : Type} {fe : AE K} {R : Bool → Prop} (I : Sto K → Prop) (enc : α → PyData) (p : α → Bool) : ∀ (xs : List α) (s : Sto K), I s →
    (∀ s, I s → ∀ x ∈ xs, ∀ T : RV K → Sto K → Prop, (∀ s', I s' → T (.d (.bool (p x))) s') → g (.d (enc x)) s fun s1 => fe s1 T) → R (xs.any p) → genF false g fe R (xs.map enc) s
  | [], s, _, _, h => h
  | x :: xs, s, hI, hs, h => by
    refine hs s hI x List.mem_cons_self _ fun s' hI' => ⟨p x, rfl, ?_⟩
    rw [List.any_cons] at h
    cases e : p x with
    | false =>
      rw [e, Bool.false_or] at h
      rw [if_pos rfl]
      exact genF_any I enc p xs s' hI' (fun s hI y hy => hs s hI y (List.mem_cons_of_mem _ hy)) h
    | true =>
      rw [e, Bool.true_or] at h
      rw [if_neg (by decide)]
      exact h
/-- for: the store by an invariant -/
theorem forF_inv {α β : Type} {gd : Sto K → Prop} (enc : α → PyData) (S : β → Sto K → Prop) (step : β → α → β) (hgd : ∀ b s, S b s → gd s) : ∀ (xs : List α) (b : β) (s : Sto K), S b s →
    (∀ b s x, x ∈ xs → S b s → ∀ N : Sto K → Prop, (∀ s', S (step b x) s' → N s') → g (.d (enc x)) s fun s1 => p { D with nx := N, ct := N, bk := D.nx } s1) → (∀ s, S (xs.foldl step b) s → D.nx s) → forF gd g p D (xs.map enc) s
  | [], b, s, hs, _, hd => ⟨hgd b s hs, hd s hs⟩
  | x :: xs, b, s, hs, hst, hd => by
    refine ⟨hgd b s hs, hst b s x List.mem_cons_self hs _ fun s' hs' => ?_⟩
    exact forF_inv enc S step hgd xs (step b x) s' hs' (fun b s y hy => hst b s y (List.mem_cons_of_mem _ hy)) hd
/-- .. by the place -/
theorem forF_idx {α : Type} {gd : Sto K → Prop} (enc : α → PyData) (S : Nat → Sto K → Prop) (xs : List α) (hgd : ∀ b s, S b s → gd s) (h0 : S 0 s)
    (hst : ∀ i s x, xs[i]? = some x → S i s → ∀ N : Sto K → Prop, (∀ s', S (i + 1) s' → N s') → g (.d (enc x)) s fun s1 => p { D with nx := N, ct := N, bk := D.nx } s1) (hd : ∀ s, S xs.length s → D.nx s) : forF gd g p D (xs.map enc) s := by
  have key : ∀ (ys : List α) (i : Nat) (s : Sto K), i ≤ xs.length → xs.drop i = ys → S i s → forF gd g p D (ys.map enc) s := by
    intro ys
    induction ys with
    | nil =>
      intro i s hi e hs
      refine ⟨hgd _ _ hs, hd s ?_⟩
      have : xs.length ≤ i := List.drop_eq_nil_iff.mp e
      rw [show xs.length = i by omega]
      exact hs
    | cons y ys ih =>
      intro i s hi e hs
      have hy : xs[i]? = some y := by
        have := congrArg List.head? e
        rw [List.head?_drop] at this
        exact this
      have hl := (List.getElem?_eq_some_iff.mp hy).1
      refine ⟨hgd _ _ hs, hst i s y hy hs _ fun s' hs' => ih (i + 1) s' hl ?_ hs'⟩
      rw [← List.tail_drop, e]
      rfl
  exact key xs 0 s (Nat.zero_le _) rfl h0
theorem forF_range {lo : Int} {n : Nat} {gd : Sto K → Prop} (S : Nat → Sto K → Prop) (hgd : ∀ b s, S b s → gd s) (h0 : S 0 s)
    (hst : ∀ i s, i < n → S i s → ∀ N : Sto K → Prop, (∀ s', S (i + 1) s' → N s') → g (.d (.int (lo + (i : Nat)))) s fun s1 => p { D with nx := N, ct := N, bk := D.nx } s1) (hd : ∀ s, S n s → D.nx s) : forF gd g p D (rangeD lo n) s := by
  unfold rangeD
  refine forF_idx _ S (List.range n) hgd h0 (fun i s x hx hs N hN => ?_) (fun s hs => hd s (by rw [List.length_range] at hs; exact hs))
  obtain ⟨h1, h2⟩ := List.getElem?_eq_some_iff.mp hx
  rw [List.length_range] at h1
  rw [List.getElem_range] at h2
  subst h2
  exact hst i s h1 hs N hN
/-- a comprehension by an invariant: the place, what is made so far, the store -/
theorem compF_inv {α : Type} {vs : List Nat} {gd : Sto K → Prop} {ft : AT K} {fe : AE K} {R : List PyData → Sto K → Prop} (enc : α → PyData) (S : Nat → List PyData → Sto K → Prop) (xs : List α) (hl : xs.length ≤ 1000) (hgd : ∀ i acc s, S i acc s → gd s) (hlen : ∀ i acc s, S i acc s → acc.length ≤ i) (h0 : S 0 [] s)
    (hst : ∀ i acc s x, xs[i]? = some x → S i acc s → ∀ T : Option PyData → Sto K → Prop, (∀ y s4, blanks s4 vs = true → S (i + 1) (acc ++ [y]) (wipeS s4 vs) → T (some y) s4) → (∀ s4, blanks s4 vs = true → S (i + 1) acc (wipeS s4 vs) → T none s4) →
      g (.d (enc x)) s fun s2 => ft s2 fun b s3 => if b = true then fe s3 fun r s4 => ∃ y, r = .d y ∧ T (some y) s4 else T none s3)
    (hd : ∀ acc s, S xs.length acc s → R acc s) : compF vs gd g ft fe R (xs.map enc) [] s := by
  have key : ∀ (ys : List α) (i : Nat) (acc : List PyData) (s : Sto K), i ≤ xs.length → xs.drop i = ys → S i acc s → compF vs gd g ft fe R (ys.map enc) acc s := by
    intro ys
    induction ys with
    | nil =>
      intro i acc s hi e hs
      refine ⟨hgd _ _ _ hs, hd acc s ?_⟩
      have : xs.length ≤ i := List.drop_eq_nil_iff.mp e
      rw [show xs.length = i by omega]
      exact hs
    | cons y ys ih =>
      intro i acc s hi e hs
      have hy : xs[i]? = some y := by
        have := congrArg List.head? e
        rw [List.head?_drop] at this
        exact this
      have hl1 := (List.getElem?_eq_some_iff.mp hy).1
      have e2 : xs.drop (i + 1) = ys := by
        rw [← List.tail_drop, e]
        rfl
      have hl2 := hlen _ _ _ hs
      exact ⟨hgd _ _ _ hs, hst i acc s y hy hs (fun o s4 => match o with
        | some y => acc.length < 1000 ∧ blanks s4 vs = true ∧ compF vs gd g ft fe R (ys.map enc) (acc ++ [y]) (wipeS s4 vs)
        | none => blanks s4 vs = true ∧ compF vs gd g ft fe R (ys.map enc) acc (wipeS s4 vs)) (fun y s4 hb hS => ⟨by omega, hb, ih (i + 1) _ _ hl1 e2 hS⟩) fun s4 hb hS => ⟨hb, ih (i + 1) _ _ hl1 e2 hS⟩⟩
  exact key xs 0 [] s (Nat.zero_le _) rfl h0
theorem compF_inv1 {α : Type} {vs : List Nat} {gd : Sto K → Prop} {fe : AE K} {R : List PyData → Sto K → Prop} (enc : α → PyData) (S : Nat → List PyData → Sto K → Prop) (xs : List α) (hl : xs.length ≤ 1000) (hgd : ∀ i acc s, S i acc s → gd s) (hlen : ∀ i acc s, S i acc s → acc.length ≤ i) (h0 : S 0 [] s)
    (hst : ∀ i acc s x, xs[i]? = some x → S i acc s → ∀ T : RV K → Sto K → Prop, (∀ y s4, blanks s4 vs = true → S (i + 1) (acc ++ [y]) (wipeS s4 vs) → T (.d y) s4) → g (.d (enc x)) s fun s2 => fe s2 T)
    (hd : ∀ acc s, S xs.length acc s → R acc s) : compF vs gd g aYes fe R (xs.map enc) [] s :=
  compF_inv enc S xs hl hgd hlen h0 (fun i acc s x hx hs T h1 h2 => by
    simp only [x_yes, if_true]
    exact hst i acc s x hx hs _ fun y s4 hb hS => ⟨y, rfl, h1 y s4 hb hS⟩) hd
theorem compF_range1 {lo : Int} {n : Nat} {vs : List Nat} {gd : Sto K → Prop} {fe : AE K} {R : List PyData → Sto K → Prop} (S : Nat → List PyData → Sto K → Prop) (hl : n ≤ 1000) (hgd : ∀ i acc s, S i acc s → gd s) (hlen : ∀ i acc s, S i acc s → acc.length ≤ i) (h0 : S 0 [] s)
    (hst : ∀ i acc s, i < n → S i acc s → ∀ T : RV K → Sto K → Prop, (∀ y s4, blanks s4 vs = true → S (i + 1) (acc ++ [y]) (wipeS s4 vs) → T (.d y) s4) → g (.d (.int (lo + (i : Nat)))) s fun s2 => fe s2 T)
    (hd : ∀ acc s, S n acc s → R acc s) : compF vs gd g aYes fe R (rangeD lo n) [] s := by
  unfold rangeD
  refine compF_inv1 _ S (List.range n) (by rw [List.length_range]; exact hl) hgd hlen h0 (fun i acc s x hx hs T h1 => ?_) (fun acc s hs => hd acc s (by rw [List.length_range] at hs; exact hs))
  obtain ⟨h3, h4⟩ := List.getElem?_eq_some_iff.mp hx
  rw [List.length_range] at h3
  rw [List.getElem_range] at h4
  subst h4
  exact hst i acc s h3 hs T h1
end
end Fw


namespace Fw
open PySem PySem.Spec PyProof.Rows L2 GxR Gx Gy RZ Mint
section
variable {X : Cx} {o e : Expr} {to0 te0 : TE}
/-! ### texts -/
def rSplit : V → List V → Hp → VK → Prop := fun x xs H Q => ∃ a b, x = .str a ∧ xs = [.str b] ∧ (b.length == 0) = false ∧ a.length + 2 ≤ sizeLine ∧ rNewStrs (Txt.split a b) H Q
theorem fe_split {apos pos : Pos} (ho : PE X o to0) (he : PE X e te0) (hs : starEach [e] X.env = [(false, eval e X.env)] := by rfl) (hbase : attributeBase o "split" X.env (eval o X.env) = eval o X.env := by rfl) (hline : (apos.endLine == pos.line) = true := by rfl) :
    PE X (.Call (.Attribute o "split" apos) [e] [] pos) (tM1 rSplit to0 te0) := pe_split ho he hs hbase hline
def rPartition : V → List V → Hp → VK → Prop := fun x xs H Q => ∃ a b, x = .str a ∧ xs = [.str b] ∧ (b.length == 0) = false ∧ a.length ≤ sizeLine ∧
      ∀ p, H p = none → Q (.ref p) (upd H p (.tup [.str (Txt.partition a b).1, .str (Txt.partition a b).2.1, .str (Txt.partition a b).2.2]))
theorem fe_partition {apos pos : Pos} (ho : PE X o to0) (he : PE X e te0) (hs : starEach [e] X.env = [(false, eval e X.env)] := by rfl) (hbase : attributeBase o "partition" X.env (eval o X.env) = eval o X.env := by rfl) (hline : (apos.endLine == pos.line) = true := by rfl) :
    PE X (.Call (.Attribute o "partition" apos) [e] [] pos) (tM1 rPartition to0 te0) := pe_partition ho he hs hbase hline
def rJoin (K : PySem.W.Frag) : V → List V → Hp → VK → Prop := fun x xs H Q => ∃ a p, ∃ ys : List Str, x = .str a ∧ xs = [.ref p] ∧ (SqL K H p (ys.map V.str) ∨ SqT K H p (ys.map V.str)) ∧
      (ys.map (·.length)).sum + ys.length * a.length ≤ 16777216 ∧ Q (.str (Txt.join a ys)) H
theorem fe_join {apos pos : Pos} (ho : PE X o to0) (he : PE X e te0) (hs : starEach [e] X.env = [(false, eval e X.env)] := by rfl) (hbase : attributeBase o "join" X.env (eval o X.env) = eval o X.env := by rfl) (hline : (apos.endLine == pos.line) = true := by rfl) :
    PE X (.Call (.Attribute o "join" apos) [e] [] pos) (tM1 (rJoin X.K) to0 te0) := pe_join ho he hs hbase hline
def rCatS : R2 := fun x y H Q => ∃ i j, x = .str i ∧ y = .str j ∧ i.length + j.length ≤ sizeLine ∧ Q (.str (i ++ j)) H
theorem fo_catS : OpR X (binaryOp .Add) rCatS := op_add_str
def tJoined (ts : List TE) : TE := fun σ H Q => tJs ts Str.empty σ H fun out H1 => Q (.str out) H1
theorem fe_joined {v1 v2 : Expr} {rest : List Expr} {ts : List TE} {pos : Pos} (h : PJ X (v1 :: v2 :: rest) ts) : PE X (.JoinedStr (v1 :: v2 :: rest) pos) (tJoined ts) := pe_joined h
def rStrI : List V → Hp → VK → Prop := fun xs H Q => ∃ i, xs = [.int i] ∧ i.natAbs.log2 < 1920 ∧ Q (.str (toString i)) H
theorem cr_str : CallR X (.type "str") rStrI := call_str_int
end
section
variable {K : PySem.W.Frag} {Ps : List Addr} {te ta tb tc to : TE} {fe fa fb fc fo : AE K} {tt : TT} {ft : AT K} {tl : TA} {fl : AA K}
class MtC (K : PySem.W.Frag) (r : V → List V → Hp → VK → Prop) (g : outParam (Str → Cn K → (Cn K → Prop) → Prop)) : Prop where
  run : ∀ {H : Hp} {a : Str} {u : V} {c : Cn K} {L : List Addr} {Q : VK} {Q' : Cn K → Prop}, Rep K H u c L → g a c Q' → (∀ w H' c G, Kp F0 H H' → Rep K H' w c G → (∀ a ∈ G, H a = none) → Q' c → Q w H') → r (.str a) [u] H Q
def aM1 {K : PySem.W.Frag} (g : Str → Cn K → (Cn K → Prop) → Prop) (a b : AE K) : AE K := fun s Q => a s fun r s1 => ∃ z, r = .d (.str z) ∧ b s1 fun r2 s2 => ∃ c, valOf s2 r2 = some c ∧ g z c fun c' => Q (resOf c') s2
instance snd_m1 {r : V → List V → Hp → VK → Prop} {g : Str → Cn K → (Cn K → Prop) → Prop} [m : MtC K r g] [a : SndE K Ps to fo] [b : SndE K Ps te fe] : SndE K Ps (tM1 r to te) (aM1 g fo fe) := ⟨fun {base M P H σ s fp Q Q'} rs h q => by
  refine a.run rs h fun v H1 r1 s1 G rs1 k1 e1 n1 ⟨z, ez, h1⟩ => ?_
  subst ez
  have := e1.1.str_inv
  subst this
  refine ⟨⟨z, rfl⟩, b.run rs1 h1 fun u H2 r2 s2 G2 rs2 k2 e2 n2 ⟨c, ec, h2⟩ => ?_⟩
  refine m.run (rs2.val' e2 ec) h2 fun w H3 c G3 k3 hr hn hq => ?_
  exact q w H3 (resOf c) s2 G3 (rs2.ext k3) ((k1.trans k2).trans (k3.mono fun _ z => z.elim)) (rr_res hr) (fun a ha => k1.non a (k2.non a (hn a ha))) hq⟩
def gSplit {K : PySem.W.Frag} (a : Str) (c : Cn K) (Q : Cn K → Prop) : Prop := ∃ b, c = .d (.str b) ∧ (b.length == 0) = false ∧ a.length + 2 ≤ sizeLine ∧ Q (.l ((Txt.split a b).map PyData.str))
def gPartition {K : PySem.W.Frag} (a : Str) (c : Cn K) (Q : Cn K → Prop) : Prop := ∃ b, c = .d (.str b) ∧ (b.length == 0) = false ∧ a.length ≤ sizeLine ∧ Q (.d (.tuple [.str (Txt.partition a b).1, .str (Txt.partition a b).2.1, .str (Txt.partition a b).2.2]))
def strsOf : List PyData → Option (List Str)
  | [] => some []
  | .str i :: ds => (strsOf ds).map (i :: ·)
  | _ :: _ => none
theorem strsOf_fz {H : Hp} : ∀ {us : List V} {ds : List PyData} {ns : List Str}, FzA K H us ds → strsOf ds = some ns → us = ns.map V.str
  | _, _, _, .nil, e => by cases e; rfl
  | _, d :: ds, ns, .cons r t, e => by
    cases d <;> simp [strsOf] at e
    obtain ⟨ns', e1, rfl⟩ := e
    rw [r.str_inv, strsOf_fz t e1]
    rfl
theorem fz_strs {H : Hp} (ns : List Str) : FzA K H (ns.map V.str) (ns.map PyData.str) := by
  induction ns with
  | nil => exact .nil
  | cons n ns ih => exact .cons (.str n) ih
def gJoin {K : PySem.W.Frag} (a : Str) (c : Cn K) (Q : Cn K → Prop) : Prop := ∃ ds ys, itemsC c = some ds ∧ strsOf ds = some ys ∧ (ys.map (·.length)).sum + ys.length * a.length ≤ 16777216 ∧ Q (.d (.str (Txt.join a ys)))
instance mt_splitC : MtC K rSplit gSplit := ⟨fun {H a u c L Q Q'} hr hg q => by
  obtain ⟨b, rfl, h1, h2, h⟩ := hg
  rw [hr.1.str_inv]
  refine ⟨a, b, rfl, rfl, h1, h2, fun p hp => ?_⟩
  have k : Kp F0 H (upd H p (.lst ((Txt.split a b).map V.str))) := .new hp _
  exact q _ _ (.l ((Txt.split a b).map PyData.str)) [p] k ⟨p, _, rfl, rfl, upd_same, fz_strs _⟩ (fun a ha => by rw [List.mem_singleton.mp ha]; exact hp) h⟩
instance mt_partC : MtC K rPartition gPartition := ⟨fun {H a u c L Q Q'} hr hg q => by
  obtain ⟨b, rfl, h1, h2, h⟩ := hg
  rw [hr.1.str_inv]
  refine ⟨a, b, rfl, rfl, h1, h2, fun p hp => ?_⟩
  have k : Kp F0 H (upd H p (.tup [.str (Txt.partition a b).1, .str (Txt.partition a b).2.1, .str (Txt.partition a b).2.2])) := .new hp _
  exact q _ _ (.d _) [] k ⟨.tup (SqT.of upd_same) (.cons (.str _) (.cons (.str _) (.cons (.str _) .nil))), rfl⟩ (fun a z => nomatch z) h⟩
instance mt_joinC : MtC K (rJoin K) gJoin := ⟨fun {H a u c L Q Q'} hr hg q => by
  obtain ⟨ds, ys, h1, h2, h3, h⟩ := hg
  have fin : ∀ {p us}, u = .ref p → (SqL K H p us ∨ SqT K H p us) → FzA K H us ds → rJoin K (.str a) [u] H Q := fun {p us} e hS hA => by
    subst e
    rw [strsOf_fz hA h2] at hS
    exact ⟨a, p, ys, rfl, rfl, hS, h3, q _ H (.d (.str _)) [] .refl ⟨.str _, rfl⟩ (fun a z => nomatch z) h⟩
  unfold itemsC at h1
  split at h1
  · cases h1
    obtain ⟨p, us, e, hS, hA⟩ := hr.1.tup_inv
    exact fin e (.inr hS) hA
  · cases h1
    obtain ⟨p, us, e, hS, hA⟩ := rep_l hr
    exact fin e (.inl hS) hA
  · cases h1⟩
def dCatS : D2 := fun x y Q => ∃ i j, x = .str i ∧ y = .str j ∧ i.length + j.length ≤ sizeLine ∧ Q (.str (i ++ j))
instance op_catSD : OpD K rCatS dCatS := ⟨fun hu hv h q => by
  obtain ⟨i, j, rfl, rfl, hl, h⟩ := h
  exact ⟨i, j, hu.str_inv, hv.str_inv, hl, q _ _ (.str (i ++ j)) .refl (.str _) h⟩⟩
def dStrI {K : PySem.W.Frag} (cs : List (Cn K)) (Q : Cn K → Prop) : Prop := ∃ i, cs = [.d (.int i)] ∧ i.natAbs.log2 < 1920 ∧ Q (.d (.str (toString i)))
instance call_strC : CallD K rStrI dStrI := ⟨fun {H vs cs Ls Q Q'} hR hg q => by
  obtain ⟨i, rfl, hl, h⟩ := hg
  cases hR with
  | cons r t =>
    cases t
    exact ⟨i, by rw [r.1.int_inv], hl, q _ H (.d (.str _)) [] .refl ⟨.str _, rfl⟩ (fun a z => nomatch z) h⟩⟩
/-! f-strings -/
def aFmt {K : PySem.W.Frag} (a : AE K) : AE K := fun s Q => a s fun r s1 => (∃ y : Str, r = .d (.str y) ∧ y.length ≤ sizeLine ∧ Q (.d (.str y)) s1) ∨ ∃ i : Int, r = .d (.int i) ∧ i.natAbs.log2 < 1920 ∧ Q (.d (.str (toString i))) s1
instance snd_fmt [a : SndE K Ps te fe] : SndE K Ps (tFmt te) (aFmt fe) := ⟨fun {base M P H σ s fp Q Q'} rs h q => by
  refine a.run rs h fun v H1 r1 s1 G rs1 k1 e1 n1 h1 => ?_
  rcases h1 with ⟨y, er, hy, h1⟩ | ⟨i, er, hi, h1⟩
  · subst er
    exact .inl ⟨y, e1.1.str_inv, hy, q _ _ (.d (.str y)) s1 [] rs1 k1 ⟨.str _, rfl⟩ (fun a z => nomatch z) h1⟩
  · subst er
    exact .inr ⟨i, e1.1.int_inv, hi, q _ _ (.d (.str (toString i))) s1 [] rs1 k1 ⟨.str _, rfl⟩ (fun a z => nomatch z) h1⟩⟩
abbrev AJ (K : PySem.W.Frag) := Str → Sto K → (Str → Sto K → Prop) → Prop
class SndJ (K : PySem.W.Frag) (Ps : List Addr) (ts : List TE) (f : outParam (AJ K)) : Prop where
  run : ∀ {base : Hp} {M : Addr → Prop} {P : Pn} {H : Hp} {σ : L2.St} {s : Sto K} {fp : Fp} {acc : Str} {Q : Str → Hp → Prop} {Q' : Str → Sto K → Prop}, RS K Ps base M P H σ s fp → f acc s Q' →
    (∀ z H' s', RS K Ps base M P H' σ s' fp → Kp (inF fp) H H' → Q' z s' → Q z H') → tJs ts acc σ H Q
def aJNil {K : PySem.W.Frag} : AJ K := fun acc s Q => Q acc s
def aJCons {K : PySem.W.Frag} (a : AE K) (j : AJ K) : AJ K := fun acc s Q => a s fun r s1 => ∃ y, r = .d (.str y) ∧ (acc ++ y).length ≤ sizeLine ∧ j (acc ++ y) s1 Q
instance snd_jnil : SndJ K Ps [] aJNil := ⟨fun r h q => q _ _ _ r .refl h⟩
instance snd_jcons {ts : List TE} {fj : AJ K} [a : SndE K Ps te fe] [b : SndJ K Ps ts fj] : SndJ K Ps (te :: ts) (aJCons fe fj) := ⟨fun {base M P H σ s fp acc Q Q'} rs h q => by
  refine a.run rs h fun v H1 r1 s1 G rs1 k1 e1 n1 ⟨y, er, hy, h1⟩ => ?_
  subst er
  exact ⟨y, e1.1.str_inv, hy, b.run rs1 h1 fun z H2 s2 rs2 k2 h2 => q z H2 s2 rs2 (k1.trans k2) h2⟩⟩
def aJoined {K : PySem.W.Frag} (j : AJ K) : AE K := fun s Q => j Str.empty s fun z s1 => Q (.d (.str z)) s1
instance snd_joined {ts : List TE} {fj : AJ K} [b : SndJ K Ps ts fj] : SndE K Ps (tJoined ts) (aJoined fj) := ⟨fun {base M P H σ s fp Q Q'} rs h q =>
  b.run rs h fun z H2 s2 rs2 k2 h2 => q _ _ (.d (.str z)) s2 [] rs2 k2 ⟨.str _, rfl⟩ (fun a z => nomatch z) h2⟩
/-! one sign of a text -/
def dIxS : D2 := fun x y Q => ∃ z i c, x = .str z ∧ y = .int i ∧ z.length ≤ sizeLine ∧ atI z.cps.toList i = some c ∧ Q (.str ⟨#[c]⟩)
instance op_ixS : OpD K rIxS dIxS := ⟨fun hu hv h q => by
  obtain ⟨z, i, c, rfl, rfl, hz, e, h⟩ := h
  exact ⟨z, i, c, hu.str_inv, hv.int_inv, hz, e, q _ _ (.str ⟨#[c]⟩) .refl (.str _) h⟩⟩
/-! slices of texts -/
def cSlS {K : PySem.W.Frag} : Cn K → Option Int → Option Int → (Cn K → Prop) → Prop := fun x lo hi Q => ∃ z, x = .d (.str z) ∧ z.length ≤ sizeLine ∧ Q (.d (.str (cutS z lo hi)))
instance sl_strC : SlC K rSlS cSlS := ⟨fun {H u x lo hi L Q Q'} hu h q => by
  obtain ⟨z, rfl, hz, h⟩ := h
  exact ⟨z, hu.1.str_inv, hz, q _ _ (.d (.str _)) [] .refl ⟨.str _, rfl⟩ (fun a z => nomatch z) h⟩⟩
/-! x in a tuple or list of texts -/
def cIn {K : PySem.W.Frag} (neg : Bool) : Cn K → Cn K → (Cn K → Prop) → Prop := fun x y Q => ∃ a ds ys, x = .d (.str a) ∧ itemsC y = some ds ∧ strsOf ds = some ys ∧ Q (.d (.bool (if neg then !decide (a ∈ ys) else decide (a ∈ ys))))
theorem inV_strs (a : Str) (ys : List Str) : inV (.str a) (ys.map V.str) = decide (a ∈ ys) := by
  unfold inV
  induction ys with
  | nil => simp
  | cons y ys ih =>
    rw [List.map_cons, List.any_cons, ih]
    have : eqV (.str y) (.str a) = decide (y = a) := by
      unfold eqV
      rw [Bool.eq_iff_iff]
      simp
    rw [this]
    by_cases e : y = a
    · subst e; simp
    · have e2 : ¬ a = y := fun z => e z.symm
      simp [e, e2]
instance op_inC (neg : Bool) : OpC K (rIn K neg) (cIn neg) := ⟨fun {H u v x y L L' Q Q'} hu hv h q => by
  obtain ⟨a, ds, ys, rfl, h1, h2, h⟩ := h
  have fin : ∀ {p us}, v = .ref p → (SqL K H p us ∨ SqT K H p us) → FzA K H us ds → rIn K neg u v H Q := fun {p us} e hS hA => by
    have e2 := strsOf_fz hA h2
    subst e2
    refine ⟨p, _, e, hS, by rw [hu.1.str_inv]; rfl, List.all_eq_true.mpr fun z hz => ?_, ?_⟩
    · obtain ⟨y, _, rfl⟩ := List.mem_map.mp hz
      rfl
    · rw [hu.1.str_inv, inV_strs]
      have := q (.bl (if neg then !decide (a ∈ ys) else decide (a ∈ ys))) H (.d (.bool (if neg then !decide (a ∈ ys) else decide (a ∈ ys)))) [] .refl ⟨.bl _, rfl⟩ (fun a z => nomatch z) h
      exact this
  unfold itemsC at h1
  split at h1
  · cases h1
    obtain ⟨p, us, e, hS, hA⟩ := hv.1.tup_inv
    exact fin e (.inr hS) hA
  · cases h1
    obtain ⟨p, us, e, hS, hA⟩ := rep_l hv
    exact fin e (.inl hS) hA
  · cases h1⟩

/-! ### dicts with ints and texts for keys -/
def keyD : PyData → Option Key
  | .int i => some (.inl i)
  | .str z => some (.inr z)
  | _ => none
def valD (kvs : List (Key × PyData)) (k : Key) : Option PyData := (kvs.find? fun kv => decide (kv.1 = k)).map (·.2)
def putD (kvs : List (Key × PyData)) (k : Key) (v : PyData) : List (Key × PyData) :=
  if (kvs.any fun kv => decide (kv.1 = k)) = true then kvs.map (fun kv => if kv.1 = k then (kv.1, v) else kv) else kvs ++ [(k, v)]
theorem keyD_inv {H : Hp} {v : V} {d : PyData} {k : Key} (h : Fz K H v d) (e : keyD d = some k) : v = kV k := by
  cases h <;> cases e <;> rfl
theorem valD_ok {H : Hp} {k : Key} : ∀ {ks : List (Key × V)} {kvs : List (Key × PyData)}, Paired (KvR K H) ks kvs → (valV ks k = none ∧ valD kvs k = none) ∨ ∃ v d, valV ks k = some v ∧ valD kvs k = some d ∧ Fz K H v d
  | _, _, .nil => .inl ⟨rfl, rfl⟩
  | p :: ks, q :: kvs, .cons r t => by
    have ih := valD_ok (k := k) t
    unfold valV valD at ih ⊢
    rw [List.find?_cons, List.find?_cons]
    rw [r.1]
    cases hd : decide (q.1 = k) with
    | true => exact .inr ⟨p.2, q.2, rfl, rfl, r.2⟩
    | false => exact ih
theorem any_ok {H : Hp} {k : Key} : ∀ {ks : List (Key × V)} {kvs : List (Key × PyData)}, Paired (KvR K H) ks kvs → (ks.any fun kv => decide (kv.1 = k)) = kvs.any fun kv => decide (kv.1 = k)
  | _, _, .nil => rfl
  | p :: ks, q :: kvs, .cons r t => by
    rw [List.any_cons, List.any_cons, any_ok t, r.1]
theorem paired_map {H : Hp} {k : Key} {v : V} {d : PyData} (h : Fz K H v d) : ∀ {ks : List (Key × V)} {kvs : List (Key × PyData)}, Paired (KvR K H) ks kvs → Paired (KvR K H) (ks.map fun kv => if kv.1 = k then (kv.1, v) else kv) (kvs.map fun kv => if kv.1 = k then (kv.1, d) else kv)
  | _, _, .nil => .nil
  | p :: ks, q :: kvs, .cons r t => by
    rw [List.map_cons, List.map_cons]
    refine .cons ?_ (paired_map h t)
    rw [r.1]
    by_cases e : q.1 = k
    · rw [if_pos e, if_pos e]; exact ⟨rfl, h⟩
    · rw [if_neg e, if_neg e]; exact r
theorem paired_snoc {α β : Type} {R : α → β → Prop} {a : α} {b : β} (h : R a b) : ∀ {xs : List α} {ys : List β}, Paired R xs ys → Paired R (xs ++ [a]) (ys ++ [b])
  | _, _, .nil => .cons h .nil
  | _, _, .cons r t => .cons r (paired_snoc h t)
theorem putD_ok {H : Hp} {k : Key} {v : V} {d : PyData} {ks : List (Key × V)} {kvs : List (Key × PyData)} (h : Fz K H v d) (p : Paired (KvR K H) ks kvs) : Paired (KvR K H) (putK ks k v) (putD kvs k d) := by
  unfold putK putD
  rw [any_ok p]
  by_cases e : (kvs.any fun kv => decide (kv.1 = k)) = true
  · rw [if_pos e, if_pos e]; exact paired_map h p
  · rw [if_neg e, if_neg e]; exact paired_snoc ⟨rfl, h⟩ p
def aDNewK {K : PySem.W.Frag} : AE K := fun s Q => Q (.n (.k [])) s
instance snd_dnewK : SndE K Ps tDNewK aDNewK := ⟨fun {base M P H σ s fp Q Q'} rs h q => fun p hp => by
  have k : Kp F0 H (upd H p (.dK [])) := .new hp _
  exact q _ _ (.n (.k [])) s [p] (rs.ext k) (k.mono fun _ z => z.elim) ⟨p, [], rfl, rfl, upd_same, .nil⟩ (fun a ha => by rw [List.mem_singleton.mp ha]; exact hp) h⟩
def aDGet {K : PySem.W.Frag} (a b : AE K) : AE K := fun s Q => a s fun r s1 => b s1 fun r2 s2 => ∃ kvs y k d, valOf s2 r = some (.k kvs) ∧ r2 = .d y ∧ keyD y = some k ∧ valD kvs k = some d ∧ Q (.d d) s2
instance snd_dget [a : SndE K Ps ta fa] [b : SndE K Ps tb fb] : SndE K Ps (tDGet ta tb) (aDGet fa fb) := ⟨fun {base M P H σ s fp Q Q'} rs h q => by
  refine a.run rs h fun v H1 r1 s1 G rs1 k1 e1 n1 h1 => ?_
  refine b.run rs1 h1 fun u H2 r2 s2 G2 rs2 k2 e2 n2 ⟨kvs, y, k, d, ev, er, ek, ed, h2⟩ => ?_
  subst er
  have hr := rs2.val' (e1.keep (fun a ha => rs.nof (n1 a ha)) k2) ev
  obtain ⟨p, ks, rfl, _, hp, hP⟩ := hr
  have := keyD_inv e2.1 ek
  subst this
  rcases valD_ok (k := k) hP with ⟨_, z⟩ | ⟨w, d', h3, h4, h5⟩
  · rw [ed] at z; cases z
  · rw [ed] at h4
    cases h4
    exact ⟨p, w, rfl, h3 ▸ DGet.k hp, q w H2 (.d d) s2 [] rs2 (k1.trans k2) ⟨h5, rfl⟩ (fun a z => nomatch z) h2⟩⟩
def aDIn {K : PySem.W.Frag} (neg : Bool) (b a : AE K) : AE K := fun s Q => b s fun r2 s1 => a s1 fun r s2 => ∃ kvs y k, valOf s2 r = some (.k kvs) ∧ r2 = .d y ∧ keyD y = some k ∧ Q (.d (.bool (if neg then !(valD kvs k).isSome else (valD kvs k).isSome))) s2
theorem din_core {neg : Bool} {base : Hp} {M : Addr → Prop} {P : Pn} {H : Hp} {σ : L2.St} {s : Sto K} {fp : Fp} {Q : VK} {Q' : RV K → Sto K → Prop} [a : SndE K Ps ta fa] [b : SndE K Ps tb fb] (rs : RS K Ps base M P H σ s fp) (h : aDIn neg fb fa s Q')
    (q : ∀ v H' r s' G, RS K Ps base M P H' σ s' fp → Kp (inF fp) H H' → RR K H' σ v r G → (∀ a ∈ G, H a = none) → Q' r s' → Q v H') :
    tb σ H fun y H1 => ta σ H1 fun x H2 => ∃ a o, x = .ref a ∧ DGet H2 a y o ∧ Q (.bl (if neg then !o.isSome else o.isSome)) H2 := by
  refine b.run rs h fun u H1 r2 s1 G rs1 k1 e1 n1 h1 => ?_
  refine a.run rs1 h1 fun v H2 r s2 G2 rs2 k2 e2 n2 ⟨kvs, y, k, ev, er, ek, h2⟩ => ?_
  subst er
  have hr := rs2.val' e2 ev
  obtain ⟨p, ks, rfl, _, hp, hP⟩ := hr
  have := keyD_inv (e1.1.keep k2) ek
  subst this
  refine ⟨p, _, rfl, DGet.k hp, q _ H2 (.d (.bool (if neg then !(valD kvs k).isSome else (valD kvs k).isSome))) s2 [] rs2 (k1.trans k2) ⟨?_, rfl⟩ (fun a z => nomatch z) h2⟩
  have : (valV ks k).isSome = (valD kvs k).isSome := by
    rcases valD_ok (k := k) hP with ⟨h3, h4⟩ | ⟨w, d', h3, h4, h5⟩ <;> rw [h3, h4] <;> rfl
  rw [this]
  exact .bl _
instance snd_din [a : SndE K Ps ta fa] [b : SndE K Ps tb fb] : SndE K Ps (tDIn tb ta) (aDIn false fb fa) := ⟨fun rs h q => din_core (neg := false) rs h q⟩
instance snd_dnotin [a : SndE K Ps ta fa] [b : SndE K Ps tb fb] : SndE K Ps (tDNotIn tb ta) (aDIn true fb fa) := ⟨fun rs h q => din_core (neg := true) rs h q⟩
/-- d[k] = v, d a name -/
def aDPut {K : PySem.W.Frag} (i : Nat) (b v : AE K) : AS K := fun D s => v s fun r s1 => (∃ kvs, cnAt s1 i = some (.k kvs)) ∧ b s1 fun r2 s2 => ∃ kvs x y k, cnAt s2 i = some (.k kvs) ∧ r = .d x ∧ r2 = .d y ∧ keyD y = some k ∧ kvs.length < 1000 ∧ D.nx (setC s2 i (.k (putD kvs k x)))
instance snd_dput {i : Nat} {tv : TE} {fv : AE K} [b : SndE K Ps tb fb] [c : SndE K Ps tv fv] : SndS K Ps (sDPut (tVar i) tb tv) (aDPut i fb fv) := ⟨fun {base M P H σ s fp D D'} rs h d => by
  refine c.run rs h fun w H1 r s1 G rs1 k1 e1 n1 ⟨⟨kvs0, e0⟩, h1⟩ => ?_
  obtain ⟨v, ev, _⟩ := rs1.cn i _ e0
  refine ⟨v, ev, b.run rs1 h1 fun u H2 r2 s2 G2 rs2 k2 e2 n2 ⟨kvs, x, y, k, e3, er, er2, ek, hl, h2⟩ => ?_⟩
  subst er er2
  obtain ⟨v', ev', hr⟩ := rs2.cn i _ e3
  rw [ev] at ev'
  cases ev'
  obtain ⟨p, ks, rfl, ef, hp, hP⟩ := hr
  have := keyD_inv e2.1 ek
  subst this
  have hlen : ∀ {xs : List (Key × V)} {ys : List (Key × PyData)}, Paired (KvR K H2) xs ys → xs.length = ys.length := fun h => Paired.length h
  refine ⟨p, _, rfl, DPut.k hp (by rw [hlen hP]; exact small1000 (Nat.le_of_lt hl)), ?_⟩
  have kput : Kp (fun a => a ∈ fp i) H2 (upd H2 p (.dK (putK ks k w))) := .put (by rw [ef]; exact List.mem_singleton.mpr rfl) hp (fun _ z => by cases z) (fun _ _ z => by cases z) (fun _ z => by cases z)
  exact d.nx (rs2.mod (c := .k (putD kvs k x)) e3 ev kput ⟨p, _, rfl, ef, upd_same, paired_mono (fun _ _ q => ⟨q.1, q.2.keep kput⟩) (putD_ok (e1.1.keep k2) hP)⟩) h2⟩

/-! ### opened -/
variable {s : Sto K} {Q : RV K → Sto K → Prop} {D : AEnds K} {a b : AE K}
@[simp] theorem x_m1 {g : Str → Cn K → (Cn K → Prop) → Prop} : aM1 g a b s Q ↔ a s fun r s1 => ∃ z, r = .d (.str z) ∧ b s1 fun r2 s2 => ∃ c, valOf s2 r2 = some c ∧ g z c fun c' => Q (resOf c') s2 := Iff.rfl
@[simp] theorem x_split {z : Str} {c : Cn K} {R : Cn K → Prop} : gSplit z c R ↔ ∃ b, c = .d (.str b) ∧ (b.length == 0) = false ∧ z.length + 2 ≤ sizeLine ∧ R (.l ((Txt.split z b).map PyData.str)) := Iff.rfl
@[simp] theorem x_partition {z : Str} {c : Cn K} {R : Cn K → Prop} : gPartition z c R ↔ ∃ b, c = .d (.str b) ∧ (b.length == 0) = false ∧ z.length ≤ sizeLine ∧ R (.d (.tuple [.str (Txt.partition z b).1, .str (Txt.partition z b).2.1, .str (Txt.partition z b).2.2])) := Iff.rfl
@[simp] theorem x_join {z : Str} {c : Cn K} {R : Cn K → Prop} : gJoin z c R ↔ ∃ ds ys, itemsC c = some ds ∧ strsOf ds = some ys ∧ (ys.map (·.length)).sum + ys.length * z.length ≤ 16777216 ∧ R (.d (.str (Txt.join z ys))) := Iff.rfl
@[simp] theorem strsOf_map {ns : List Str} : strsOf (ns.map PyData.str) = some ns := by
  induction ns with
  | nil => rfl
  | cons n ns ih => simp [strsOf, ih]
@[simp] theorem x_catS {x y : PyData} {R : PyData → Prop} : dCatS x y R ↔ ∃ i j, x = .str i ∧ y = .str j ∧ i.length + j.length ≤ sizeLine ∧ R (.str (i ++ j)) := Iff.rfl
@[simp] theorem x_ixS {x y : PyData} {R : PyData → Prop} : dIxS x y R ↔ ∃ z i c, x = .str z ∧ y = .int i ∧ z.length ≤ sizeLine ∧ atI z.cps.toList i = some c ∧ R (.str ⟨#[c]⟩) := Iff.rfl
@[simp] theorem x_strI {cs : List (Cn K)} {R : Cn K → Prop} : dStrI cs R ↔ ∃ i, cs = [.d (.int i)] ∧ i.natAbs.log2 < 1920 ∧ R (.d (.str (toString i))) := Iff.rfl
@[simp] theorem x_fmt : aFmt a s Q ↔ a s fun r s1 => (∃ y : Str, r = .d (.str y) ∧ y.length ≤ sizeLine ∧ Q (.d (.str y)) s1) ∨ ∃ i : Int, r = .d (.int i) ∧ i.natAbs.log2 < 1920 ∧ Q (.d (.str (toString i))) s1 := Iff.rfl
@[simp] theorem x_jnil {acc : Str} {R : Str → Sto K → Prop} : aJNil acc s R ↔ R acc s := Iff.rfl
@[simp] theorem x_jcons {j : AJ K} {acc : Str} {R : Str → Sto K → Prop} : aJCons a j acc s R ↔ a s fun r s1 => ∃ y, r = .d (.str y) ∧ (acc ++ y).length ≤ sizeLine ∧ j (acc ++ y) s1 R := Iff.rfl
@[simp] theorem x_joined {j : AJ K} : aJoined j s Q ↔ j Str.empty s fun z s1 => Q (.d (.str z)) s1 := Iff.rfl
@[simp] theorem x_slS {x : Cn K} {lo hi : Option Int} {R : Cn K → Prop} : cSlS x lo hi R ↔ ∃ z, x = .d (.str z) ∧ z.length ≤ sizeLine ∧ R (.d (.str (cutS z lo hi))) := Iff.rfl
@[simp] theorem x_in {neg : Bool} {x y : Cn K} {R : Cn K → Prop} : cIn neg x y R ↔ ∃ a ds ys, x = .d (.str a) ∧ itemsC y = some ds ∧ strsOf ds = some ys ∧ R (.d (.bool (if neg then !decide (a ∈ ys) else decide (a ∈ ys)))) := Iff.rfl
@[simp] theorem x_dnewK : aDNewK s Q ↔ Q (.n (.k [])) s := Iff.rfl
@[simp] theorem x_dget : aDGet a b s Q ↔ a s fun r s1 => b s1 fun r2 s2 => ∃ kvs y k d, valOf s2 r = some (.k kvs) ∧ r2 = .d y ∧ keyD y = some k ∧ valD kvs k = some d ∧ Q (.d d) s2 := Iff.rfl
@[simp] theorem x_din {neg : Bool} : aDIn neg b a s Q ↔ b s fun r2 s1 => a s1 fun r s2 => ∃ kvs y k, valOf s2 r = some (.k kvs) ∧ r2 = .d y ∧ keyD y = some k ∧ Q (.d (.bool (if neg then !(valD kvs k).isSome else (valD kvs k).isSome))) s2 := Iff.rfl
@[simp] theorem x_dput {i : Nat} {v : AE K} : aDPut i b v D s ↔ v s fun r s1 => (∃ kvs, cnAt s1 i = some (.k kvs)) ∧ b s1 fun r2 s2 => ∃ kvs x y k, cnAt s2 i = some (.k kvs) ∧ r = .d x ∧ r2 = .d y ∧ keyD y = some k ∧ kvs.length < 1000 ∧ D.nx (setC s2 i (.k (putD kvs k x))) := Iff.rfl
@[simp] theorem keyD_str {z : Str} : keyD (.str z) = some (.inr z) := rfl
@[simp] theorem keyD_int {z : Int} : keyD (.int z) = some (.inl z) := rfl
theorem atI_mem' {α : Type} {xs : List α} {i : Int} (h0 : 0 ≤ i) (h1 : i < xs.length) : ∃ x, atI xs i = some x ∧ x ∈ xs := by
  obtain ⟨n, rfl⟩ := Int.eq_ofNat_of_zero_le h0
  have hn : n < xs.length := by omega
  exact ⟨xs[n], atI_nat (List.getElem?_eq_getElem hn), List.getElem_mem hn⟩
end
end Fw


namespace Mint
open PySem PySem.Spec PyProof.Rows L2 GxR Gx

def top (i : Nat) : Stmt := PySem.Challenge.pw_mintlaw_k95_plans_and_verdicts_as_texts.main.body.getD i (.Pass ⟨0, 0, 0, 0⟩)
/-! ### the module's constants -/
def lettersS : Str := "abcdefghijklmnopqrstuvwxyz"
def signsS : Str := "abcdefghijklmnopqrstuvwxyz0123456789"
def reservedV : List V := [.str "kinds", .str "nothing", .str "endless", .str "x"]
structure Cst (K : PySem.W.Frag) (mg : Str → Option Value) : Prop where
  signs : ∃ t, mg "NAME_SIGNS" = some (.str signsS t)
  mostDepth : ∃ t, mg "MOST_DEPTH" = some (.int 30 t)
  endless : ∃ t, mg "ENDLESS" = some (.int (-1) t)

/-! ### is_integer -/
def fInteger : PyData → Bool
  | .int _ => true
  | _ => false
section
variable {P : Program} {w : World} {K : PySem.W.Frag} {mg : Str → Option Value} {base : Heap} {f : Addr} {fd : FuncData}
end

/-! ### is_name -/
def okSign (c : Nat) : Bool := decide (c ∈ signsS.cps.toList)
def fNameS (x : Str) : Bool := (decide ((1 : Int) ≤ x.length) && decide ((x.length : Int) ≤ 12)) && ((match x.cps.toList with | c :: _ => decide (c ∈ lettersS.cps.toList) | [] => false) && !inV (.str x) reservedV) && x.cps.toList.all okSign
def fName : PyData → Bool
  | .str x => fNameS x
  | _ => false
section
variable {P : Program} {w : World} {K : PySem.W.Frag} {mg : Str → Option Value} {base : Heap} {f c T : Addr} {fd : FuncData}
/-- texts are not too long -/
def SmallStr : PyData → Prop
  | .str x => x.length ≤ sizeLine
  | _ => True
end
end Mint


namespace Mint
open PySem PySem.Spec PyProof.Rows L2 GxR Gx

abbrev spInteger (K : PySem.W.Frag) : Sp := spB K [] 1 (fun _ => True) fun ds => fInteger (ds.getD 0 .none)
abbrev spName (K : PySem.W.Frag) (T : Addr) : Sp := spB K [T] 1 (fun ds => SmallStr (ds.getD 0 .none)) fun ds => fName (ds.getD 0 .none)

/-! ### are_integers -/
def okEntry (l : Int) : PyData → Bool
  | .int i => decide (l ≤ i)
  | _ => false
def fEntries (d : PyData) (w l : Int) : Bool := match d with
  | .tuple ds => decide ((ds.length : Int) = w) && ds.all (okEntry l)
  | _ => false
def spEntries (K : PySem.W.Frag) (Ps : List Addr) : Sp := fun vs H Q _ => ∃ (v : V) (d : PyData) (wd lo : Int), vs = [v, .int wd, .int lo] ∧ Dp K H v d ∧ Tabs Ps H ∧ ∀ H', ExtP H H' → Q (.bl (fEntries d wd lo)) H'
section
variable {P : Program} {w : World} {K : PySem.W.Frag} {mg : Str → Option Value} {base : Heap} {f c T : Addr} {fd : FuncData}
end
end Mint


namespace Mint
open PySem PySem.Spec PyProof.Rows L2 GxR Gx

/-! ### are_units -/
def okMost : PyData → Bool
  | .int i => decide (i ≤ 1000)
  | _ => false
def fUnits (d : PyData) (w : Int) : Bool := fEntries d w 0 && match d with
  | .tuple ds => ds.all okMost
  | _ => false
theorem ints_of {K : PySem.W.Frag} {H : Hp} {lo : Int} : ∀ {xs : List V} {ds : List PyData}, DpAll K H xs ds → ds.all (okEntry lo) = true → ∃ ns : List Int, xs = ns.map V.int ∧ ds = ns.map PyData.int
  | _, _, .nil, _ => ⟨[], rfl, rfl⟩
  | _, _, .cons (ds := ds) h t, e => by
    rw [List.all_cons, Bool.and_eq_true] at e
    obtain ⟨ns, e1, e2⟩ := ints_of t e.2
    cases h with
    | int i => exact ⟨i :: ns, by rw [e1]; rfl, by rw [e2]; rfl⟩
    | non => cases e.1
    | bl _ => cases e.1
    | str _ => cases e.1
    | lst _ _ => cases e.1
    | tup _ _ => cases e.1
theorem all_most {ns : List Int} {m : Int} (h1 : m ∈ ns) (h2 : ∀ y, y ∈ ns → y ≤ m) : (ns.map PyData.int).all okMost = decide (m ≤ 1000) := by
  rw [Bool.eq_iff_iff, List.all_eq_true, decide_eq_true_iff]
  constructor
  · intro h
    exact of_decide_eq_true (h (.int m) (List.mem_map.mpr ⟨m, h1, rfl⟩))
  · intro h d hd
    obtain ⟨y, hy, rfl⟩ := List.mem_map.mp hd
    exact decide_eq_true (Int.le_trans (h2 y hy) h)
def spUnits (K : PySem.W.Frag) (Ps : List Addr) : Sp := fun vs H Q _ => ∃ (v : V) (d : PyData) (wd : Int), vs = [v, .int wd] ∧ 0 < wd ∧ Dp K H v d ∧ Tabs Ps H ∧ ∀ H', ExtP H H' → Q (.bl (fUnits d wd)) H'
section
variable {P : Program} {w : World} {K : PySem.W.Frag} {mg : Str → Option Value} {base : Heap} {f c T : Addr} {fd : FuncData}
end

/-! ### is_stock, is_extended -/
/-- a book's form, as the callers keep it -/
abbrev bookD (ks ms : List PyData) : PyData := .tuple [.tuple ks, .tuple ms]
def spStock (K : PySem.W.Frag) (Ps : List Addr) (lo : Int) : Sp := fun vs H Q _ => ∃ (b v : V) (d : PyData) (ks ms : List PyData), vs = [b, v] ∧ Dp K H b (bookD ks ms) ∧ Dp K H v d ∧ Tabs Ps H ∧ ∀ H', ExtP H H' → Q (.bl (fEntries d ks.length lo)) H'
theorem book_parts {K : PySem.W.Frag} {H : Hp} {b : V} {ks ms : List PyData} (h : Dp K H b (bookD ks ms)) : ∃ a a1 a2 x1 x2, b = .ref a ∧ SqT K H a [.ref a1, .ref a2] ∧ SqT K H a1 x1 ∧ DpAll K H x1 ks ∧ SqT K H a2 x2 ∧ DpAll K H x2 ms := by
  cases h with
  | @tup a xs _ hS hD =>
    cases hD with
    | cons h1 t =>
      cases t with
      | cons h2 t =>
        cases t
        cases h1 with
        | @tup a1 x1 _ s1 d1 =>
          cases h2 with
          | @tup a2 x2 _ s2 d2 => exact ⟨a, a1, a2, x1, x2, rfl, hS, s1, d1, s2, d2⟩
section
variable {P : Program} {w : World} {K : PySem.W.Frag} {mg : Str → Option Value} {base : Heap} {f c T : Addr} {fd : FuncData}
end

/-! ### are_kinds -/
def fKinds : PyData → Bool
  | .tuple ds => (decide ((1 : Int) ≤ ds.length) && decide ((ds.length : Int) ≤ 6)) && ds.all fName
  | _ => false
def SmallStrs : PyData → Prop
  | .tuple ds => ∀ d ∈ ds, SmallStr d
  | _ => True
abbrev spKinds (K : PySem.W.Frag) (Ps : List Addr) : Sp := spB K Ps 1 (fun ds => SmallStrs (ds.getD 0 .none)) fun ds => fKinds (ds.getD 0 .none)
section
variable {P : Program} {w : World} {K : PySem.W.Frag} {mg : Str → Option Value} {base : Heap} {f c T TN : Addr} {fd : FuncData}
end
end Mint


namespace Mint
open PySem PySem.Spec PyProof.Rows L2 GxR Gx RZ

/-! ### is_move -/
def leq : PyData → PyData → Bool
  | .int a, .int b => decide (a ≤ b)
  | _, _ => false
def leAll : PyData → PyData → Bool
  | .tuple ls, .tuple ms => (ls.zip ms).all fun p => leq p.1 p.2
  | _, _ => false
def fMove (d : PyData) (w : Int) : Bool := match d with
  | .tuple [name, take, least, most] => fName name && [take, least, most].all (fun u => fUnits u w) && leAll least most
  | _ => false
def SmallMove : PyData → Prop
  | .tuple (name :: _) => SmallStr name
  | _ => True
def spMove (K : PySem.W.Frag) (Ps : List Addr) : Sp := fun vs H Q _ => ∃ (v : V) (d : PyData) (wd : Int), vs = [v, .int wd] ∧ (0 < wd ∧ wd ≤ 1000) ∧ SmallMove d ∧ Dp K H v d ∧ Tabs Ps H ∧ ∀ H', ExtP H H' → Q (.bl (fMove d wd)) H'
theorem units_ints {K : PySem.W.Frag} {H : Hp} {v : V} {d : PyData} {wd : Int} (h : Dp K H v d) (hu : fUnits d wd = true) : ∃ (a : Addr) (ns : List Int), v = .ref a ∧ d = .tuple (ns.map PyData.int) ∧ SqT K H a (ns.map V.int) ∧ (ns.length : Int) = wd := by
  unfold fUnits at hu
  rw [Bool.and_eq_true] at hu
  cases h with
  | @tup a xs ds hS hD =>
    have hf : (decide ((ds.length : Int) = wd) && ds.all (okEntry 0)) = true := hu.1
    rw [Bool.and_eq_true] at hf
    obtain ⟨ns, e2, e3⟩ := ints_of hD hf.2
    subst e2 e3
    have := of_decide_eq_true hf.1
    rw [List.length_map] at this
    exact ⟨a, ns, rfl, rfl, hS, this⟩
  | non => cases hu.1
  | bl _ => cases hu.1
  | int _ => cases hu.1
  | str _ => cases hu.1
  | lst _ _ => cases hu.1
theorem leAll_ints : ∀ (ns ms : List Int), ((ns.map PyData.int).zip (ms.map PyData.int)).all (fun p => leq p.1 p.2) = (List.zipWith (fun a b => decide (a ≤ b)) ns ms).all id
  | [], _ => by simp
  | _ :: _, [] => by simp
  | a :: ns, b :: ms => by
    have ih := leAll_ints ns ms
    simp only [List.map_cons, List.zip_cons_cons, List.all_cons, List.zipWith_cons_cons, id]
    rw [ih]
    rfl
theorem dp_four {K : PySem.W.Frag} {H : Hp} {xs : List V} {ds : List PyData} (h : DpAll K H xs ds) (e : xs.length = 4) : ∃ v1 v2 v3 v4 d1 d2 d3 d4, xs = [v1, v2, v3, v4] ∧ ds = [d1, d2, d3, d4] ∧ Dp K H v1 d1 ∧ Dp K H v2 d2 ∧ Dp K H v3 d3 ∧ Dp K H v4 d4 := by
  match xs, ds, h, e with
  | [v1, v2, v3, v4], [d1, d2, d3, d4], .cons h1 (.cons h2 (.cons h3 (.cons h4 .nil))), _ => exact ⟨v1, v2, v3, v4, d1, d2, d3, d4, rfl, rfl, h1, h2, h3, h4⟩
theorem fMove_ne {ds : List PyData} {wd : Int} (h : ds.length ≠ 4) : fMove (.tuple ds) wd = false := by
  match ds, h with
  | [], _ => rfl
  | [_], _ => rfl
  | [_, _], _ => rfl
  | [_, _, _], _ => rfl
  | [_, _, _, _], h => exact absurd rfl h
  | _ :: _ :: _ :: _ :: _ :: _, _ => rfl
section
variable {P : Program} {w : World} {K : PySem.W.Frag} {mg : Str → Option Value} {base : Heap} {f c T TN TE : Addr} {fd : FuncData}
end
end Mint


namespace Mint
open PySem PySem.Spec PyProof.Rows L2 GxR Gx RZ

/-! ### are_moves -/
def fMoves (d : PyData) (w : Int) : Bool := match d with
  | .tuple ds => !decide ((8 : Int) < ds.length) && ds.all (fun m => fMove m w)
  | _ => false
def SmallMoves : PyData → Prop
  | .tuple ds => ∀ d ∈ ds, SmallMove d
  | _ => True
def spMoves (K : PySem.W.Frag) (Ps : List Addr) : Sp := fun vs H Q _ => ∃ (v : V) (d : PyData) (wd : Int), vs = [v, .int wd] ∧ (0 < wd ∧ wd ≤ 1000) ∧ SmallMoves d ∧ Dp K H v d ∧ Tabs Ps H ∧ ∀ H', ExtP H H' → Q (.bl (fMoves d wd)) H'
section
variable {P : Program} {w : World} {K : PySem.W.Frag} {mg : Str → Option Value} {base : Heap} {f c T : Addr} {fd : FuncData} {Ps : List Addr}
end

/-! ### is_book -/
def strOf : PyData → Str
  | .str x => x
  | _ => Str.empty
def nameOf : PyData → Str
  | .tuple (n :: _) => strOf n
  | _ => Str.empty
def itemsOf : PyData → List PyData
  | .tuple ds => ds
  | _ => []
def namesOf (ks ms : PyData) : List Str := (itemsOf ks).map strOf ++ (itemsOf ms).map nameOf
def fBook : PyData → Bool
  | .tuple [ks, ms] => fKinds ks && fMoves ms (itemsOf ks).length && decide (((dedup (namesOf ks ms)).length : Int) = (namesOf ks ms).length)
  | _ => false
def SmallBook (d : PyData) : Prop := ∀ ks ms, d = .tuple [ks, ms] → SmallStrs ks ∧ SmallMoves ms
abbrev spBook (K : PySem.W.Frag) (Ps : List Addr) : Sp := spB K Ps 1 (fun ds => SmallBook (ds.getD 0 .none)) fun ds => fBook (ds.getD 0 .none)
theorem dp_two {K : PySem.W.Frag} {H : Hp} {xs : List V} {ds : List PyData} (h : DpAll K H xs ds) (e : xs.length = 2) : ∃ v1 v2 d1 d2, xs = [v1, v2] ∧ ds = [d1, d2] ∧ Dp K H v1 d1 ∧ Dp K H v2 d2 := by
  match xs, ds, h, e with
  | [v1, v2], [d1, d2], .cons h1 (.cons h2 .nil), _ => exact ⟨v1, v2, d1, d2, rfl, rfl, h1, h2⟩
theorem fBook_ne {ds : List PyData} (h : ds.length ≠ 2) : fBook (.tuple ds) = false := by
  match ds, h with
  | [], _ => rfl
  | [_], _ => rfl
  | [_, _], h => exact absurd rfl h
  | _ :: _ :: _ :: _, _ => rfl
/-- names are texts -/
theorem kinds_strs {K : PySem.W.Frag} {H : Hp} : ∀ {xs : List V} {ds : List PyData}, DpAll K H xs ds → ds.all fName = true → xs = (ds.map strOf).map V.str
  | _, _, .nil, _ => rfl
  | _, _, .cons (ds := ds) h t, e => by
    rw [List.all_cons, Bool.and_eq_true] at e
    cases h with
    | str x => rw [kinds_strs t e.2]; rfl
    | _ => cases e.1
theorem move_name {K : PySem.W.Frag} {H : Hp} {v : V} {d : PyData} {wd : Int} (h : Dp K H v d) (e : fMove d wd = true) : ∃ a rest, v = .ref a ∧ SqT K H a (.str (nameOf d) :: rest) := by
  cases h with
  | @tup a xs ds hS hD =>
    have h4 : ds.length = 4 := Classical.byContradiction fun z => by
      rw [fMove_ne z] at e
      cases e
    obtain ⟨v1, v2, v3, v4, d1, d2, d3, d4, rfl, rfl, h1, _⟩ := dp_four hD ((dpAll_len hD).trans h4)
    have e2 : (fName d1 && [d2, d3, d4].all (fun u => fUnits u wd) && leAll d3 d4) = true := e
    rw [Bool.and_eq_true, Bool.and_eq_true] at e2
    cases h1 with
    | str x => exact ⟨a, _, rfl, hS⟩
    | _ => cases e2.1.1
  | _ => cases e
section
variable {P : Program} {w : World} {K : PySem.W.Frag} {mg : Str → Option Value} {base : Heap} {f : Addr} {fd : FuncData} {Pk Pm Ps : List Addr}
end
end Mint


namespace Mint
open PySem PySem.Spec PyProof.Rows L2 GxR Gx RZ

/-! ### is_run_within, is_step -/
def inRange (nm : Int) : PyData → Bool
  | .int i => decide (0 ≤ i) && decide (i < nm)
  | _ => false
def ge1 : PyData → Bool
  | .int i => !decide (i < 1)
  | _ => false
def stepOf (nm : Int) (g : PyData → Bool) : PyData → Bool
  | .tuple [h, m] => PyData.eqv h (.str "do") && (fInteger m && inRange nm m)
  | .tuple [h, k, r] => PyData.eqv h (.str "rep") && (fInteger k && (ge1 k && !PyData.eqv r (.tuple []))) && g r
  | _ => false
def fRunW (nm : Int) : Nat → PyData → Bool
  | 0, _ => false
  | n + 1, .tuple ds => ds.all (stepOf nm (fRunW nm n))
  | _ + 1, _ => false
theorem shaped_all {ds : List PyData} (h : SeqAt.shaped (.tuple ds) = true) : ∀ d ∈ ds, SeqAt.shaped d = true := by
  have h1 := SeqAt.canLay_of_shaped h
  have h2 := SeqAt.depth_of_shaped h
  have a : ∀ (l : List PyData) (d : PyData), PyData.canLayAll0 l = true → d ∈ l → d.canLay0 = true := by
    intro l
    induction l with
    | nil => intro d _ hd; cases hd
    | cons x l ih =>
      intro d hl hd
      have hl' : x.canLay0 = true ∧ PyData.canLayAll0 l = true := by simpa [PyData.canLayAll0] using hl
      rcases List.mem_cons.mp hd with e | hd
      · rw [e]; exact hl'.1
      · exact ih d hl'.2 hd
  have b : ∀ (l : List PyData) (d : PyData), d ∈ l → d.depth ≤ PyData.depthAll l := by
    intro l
    induction l with
    | nil => intro d hd; cases hd
    | cons x l ih =>
      intro d hd
      have e : PyData.depthAll (x :: l) = max x.depth (PyData.depthAll l) := by simp [PyData.depthAll]
      rw [e]
      rcases List.mem_cons.mp hd with e | hd
      · rw [e]; exact Nat.le_max_left _ _
      · exact Nat.le_trans (ih d hd) (Nat.le_max_right _ _)
  intro d hd
  have h3 : (PyData.tuple ds).depth = PyData.depthAll ds + 1 := by simp [PyData.depth]
  have h4 := b ds d hd
  unfold SeqAt.shaped
  rw [a ds d h1 hd, decide_eq_true (by omega)]
  rfl
theorem dp_three {K : PySem.W.Frag} {H : Hp} {xs : List V} {ds : List PyData} (h : DpAll K H xs ds) (e : xs.length = 3) : ∃ v1 v2 v3 d1 d2 d3, xs = [v1, v2, v3] ∧ ds = [d1, d2, d3] ∧ Dp K H v1 d1 ∧ Dp K H v2 d2 ∧ Dp K H v3 d3 := by
  match xs, ds, h, e with
  | [v1, v2, v3], [d1, d2, d3], .cons h1 (.cons h2 (.cons h3 .nil)), _ => exact ⟨v1, v2, v3, d1, d2, d3, rfl, rfl, h1, h2, h3⟩
theorem stepOf_ne {nm : Int} {g : PyData → Bool} {ds : List PyData} (h2 : ds.length ≠ 2) (h3 : ds.length ≠ 3) : stepOf nm g (.tuple ds) = false := by
  match ds, h2, h3 with
  | [], _, _ => rfl
  | [_], _, _ => rfl
  | [_, _], h, _ => exact absurd rfl h
  | [_, _, _], _, h => exact absurd rfl h
  | _ :: _ :: _ :: _ :: _, _, _ => rfl
/-- the promises, for depths up to N -/
def spRunW (K : PySem.W.Frag) (Ps : List Addr) (N : Nat) : Sp := fun vs H Q _ => ∃ (b v : V) (d : PyData) (ks ms : List PyData) (n : Nat), vs = [b, v, .int n] ∧ n ≤ N ∧ Dp K H b (bookD ks ms) ∧ Dp K H v d ∧ SeqAt.shaped d = true ∧ Tabs Ps H ∧ ∀ H', ExtP H H' → Q (.bl (fRunW ms.length n d)) H'
def spStep (K : PySem.W.Frag) (Ps : List Addr) (N : Nat) : Sp := fun vs H Q _ => ∃ (b v : V) (d : PyData) (ks ms : List PyData) (n : Nat), vs = [b, v, .int ((n + 1 : Nat) : Int)] ∧ n + 1 ≤ N ∧ Dp K H b (bookD ks ms) ∧ Dp K H v d ∧ SeqAt.shaped d = true ∧ Tabs Ps H ∧ ∀ H', ExtP H H' → Q (.bl (stepOf ms.length (fRunW ms.length n) d)) H'
section
variable {P : Program} {w : World} {K : PySem.W.Frag} {mg : Str → Option Value} {base : Heap} {f c T : Addr} {fd : FuncData}
end

/-! ### is_run, move_index -/
def spRun (K : PySem.W.Frag) (Ps : List Addr) : Sp := fun vs H Q _ => ∃ (b v : V) (d : PyData) (ks ms : List PyData), vs = [b, v] ∧ Dp K H b (bookD ks ms) ∧ Dp K H v d ∧ SeqAt.shaped d = true ∧ Tabs Ps H ∧ ∀ H', ExtP H H' → Q (.bl (fRunW ms.length 30 d)) H'
def idxOf (x : Str) : List PyData → Nat → Option Nat
  | [], _ => none
  | m :: r, i => if nameOf m = x then some i else idxOf x r (i + 1)
def optV : Option Nat → V
  | some i => .int i
  | none => .non
def spIndex (K : PySem.W.Frag) : Sp := fun vs H Q _ => ∃ (b : V) (x : Str) (ks ms : List PyData), vs = [b, .str x] ∧ Dp K H b (bookD ks ms) ∧ (∀ m ∈ ms, ∃ n r, m = .tuple (.str n :: r)) ∧ ms.length ≤ 1000 ∧ ∀ H', ExtP H H' → Q (optV (idxOf x ms 0)) H'
abbrev sIndex : Stmt := top 13
theorem scIndex : FnScope ["book", "name", "index", "move"] ["book", "name"] (defScope sIndex) := ⟨rfl, rfl, rfl, by decide +kernel, rfl, by decide +kernel, by decide +kernel⟩
section
variable {P : Program} {w : World} {K : PySem.W.Frag} {mg : Str → Option Value} {base : Heap} {f T : Addr} {fd : FuncData}
end
end Mint


namespace Mint
open PySem PySem.Spec PyProof.Rows L2 GxR Gx RZ

section
variable {P : Program} {w : World} {K : PySem.W.Frag} {mg : Str → Option Value} {base : Heap} {f T : Addr} {fd : FuncData}
theorem idx_step {x : Str} : ∀ (ms : List PyData) (i k : Nat) (m : PyData), ms[i]? = some m → (∀ j m', j < i → ms[j]? = some m' → nameOf m' ≠ x) → nameOf m = x → idxOf x ms k = some (k + i)
  | [], i, k, m, h, _, _ => by simp at h
  | m0 :: r, 0, k, m, h, _, e => by
    simp at h
    subst h
    unfold idxOf
    rw [if_pos e]
    rfl
  | m0 :: r, i + 1, k, m, h, no, e => by
    unfold idxOf
    rw [if_neg (no 0 m0 (Nat.succ_pos i) rfl), idx_step r i (k + 1) m (by simpa using h) (fun j m' hj hm => no (j + 1) m' (by omega) (by simpa using hm)) e]
    congr 1
    omega
theorem idx_none {x : Str} : ∀ (ms : List PyData) (k : Nat), (∀ m ∈ ms, nameOf m ≠ x) → idxOf x ms k = none
  | [], _, _ => rfl
  | m0 :: r, k, no => by
    unfold idxOf
    rw [if_neg (no m0 List.mem_cons_self)]
    exact idx_none r (k + 1) fun m hm => no m (List.mem_cons_of_mem _ hm)
theorem ok_index (F : Fun K "move_index" "move_index" sIndex f fd) (G : Glb mg) : FnOk P w K mg base CX0 1 f fd ["book", "name"] (spIndex K) := by
  refine F.ok scIndex (fun vs H Q E h => ?_) (fun cdv A outer s H vs Q E hr h => ?_)
  · obtain ⟨b, x, ks, ms, rfl, _⟩ := h
    rfl
  obtain ⟨b, x, ks, ms, rfl, hb, hms, hlen, q⟩ := h
  obtain ⟨a, a1, a2, x1, x2, rfl, hS, s1, d1, s2, d2⟩ := book_parts hb
  have nd := scIndex.nd
  refine ⟨_, pss_cons (ps_for PassesOwn.never rfl (pi_enumT rfl G.enumerate (pa_cons (pe_ix ix_tup (pv 0) pe_int (fun _ _ => rfl)) pa_nil)) (pg_tup (n := 2) rfl (pgs_cons (pg_name (i := 2) nd rfl (Or.inl rfl)) (pgs_cons (pg_name (i := 3) nd rfl (Or.inl rfl)) pgs_nil)))
    (pss_one (ps_if (pt_cmpR op_eq (pe_ix ix_tup (pv 3) pe_int (fun _ _ => rfl)) (pv 1) (nomark _)) (pss_one (ps_ret (pv 2))) pss_nil)))
    (pss_one (ps_ret pe_non)), ?_⟩
  refine ⟨_, rfl, a, [.ref a1, .ref a2], 1, .ref a2, rfl, rfl, hS, atI_nat (xs := [V.ref a1, V.ref a2]) (j := 1) rfl, a2, x2, rfl, s2, ?_⟩
  refine for_enumT (xs := x2) (fun i σ H' => ExtP H H' ∧ (∃ o3 o4, σ = [some (.ref a), some (.str x), o3, o4]) ∧ ∀ j m', j < i → ms[j]? = some m' → nameOf m' ≠ x) ⟨Ext.refl true H, ⟨none, none, rfl⟩, fun j m' hj => by omega⟩ (fun i σ H' _ p => p.1.sqT s2) (fun i v T σ H' hv p hT => ?_) fun σ H' p => ?_
  · obtain ⟨e, ⟨o3, o4, rfl⟩, no⟩ := p
    obtain ⟨m, hm, hd⟩ := dpAll_get d2 hv
    have e2 : ExtP H (upd H' T (.tup [.int (i : Nat), v])) := e.trans (Ext.new hT _)
    obtain ⟨n, r, rfl⟩ := hms m (List.mem_of_getElem? hm)
    cases e2.dp hd with
    | @tup am xm _ hSm hDm =>
      cases hDm with
      | cons hn hr' =>
        cases hn with
        | str =>
          refine ⟨T, [.int (i : Nat), .ref am], rfl, SqT.of upd_same, rfl, _, _, rfl, _, _, rfl, rfl, ?_⟩
          refine ⟨_, rfl, am, _, 0, .str n, rfl, rfl, hSm, atI_nat (j := 0) rfl, _, rfl, rfl, _, rfl, ?_⟩
          refine ite2 (fun c1 => ?_) (fun c1 => ?_)
          · have c2 : n = x := V.str.inj (of_decide_eq_true c1)
            refine ⟨_, rfl, ?_⟩
            have qq := q _ e2
            rw [idx_step ms i 0 _ hm no c2, Nat.zero_add] at qq
            exact qq
          · have c2 : ¬ n = x := fun z => c1 (by rw [z]; exact decide_eq_true rfl)
            refine ⟨e2, ⟨_, _, rfl⟩, fun j m' hj hm' => ?_⟩
            by_cases z : j = i
            · subst z
              rw [hm] at hm'
              cases hm'
              exact c2
            · exact no j m' (by omega) hm'
  · obtain ⟨e, _, no⟩ := p
    have qq := q _ e
    rw [idx_none ms 0 fun m hm => ?_] at qq
    · exact qq
    · obtain ⟨j, hj, ej⟩ := List.getElem_of_mem hm
      exact no j m (by rw [dpAll_len d2]; exact hj) (by rw [List.getElem?_eq_getElem hj, ej])
end
end Mint


namespace Mint
open PySem PySem.Spec PyProof.Rows L2 GxR Gx RZ

/-! ### _law_mix: some number -/
def spMix : Sp := fun vs H Q _ => ∃ a b : Int, vs = [.int a, .int b] ∧ ∀ r : Int, 0 ≤ r → r < 2147483647 → Q (.int r) H
abbrev sMix : Stmt := top 48
theorem scMix : FnScope ["first", "second", "value"] ["first", "second"] (defScope sMix) := ⟨rfl, rfl, rfl, by decide +kernel, rfl, by decide +kernel, by decide +kernel⟩
section
variable {P : Program} {w : World} {K : PySem.W.Frag} {mg : Str → Option Value} {base : Heap} {f T : Addr} {fd : FuncData}
theorem ok_mix (F : Fun K "_law_mix" "_law_mix" sMix f fd) (G : Glb mg) : FnOk P w K mg base CX0 1 f fd ["first", "second"] spMix := by
  refine F.ok scMix (fun vs H Q E h => ?_) (fun cdv A outer s H vs Q E hr h => ?_)
  · obtain ⟨a, b, rfl, _⟩ := h
    rfl
  obtain ⟨a, b, rfl, q⟩ := h
  have nd := scMix.nd
  refine ⟨_, pss_cons (ps_set (i := 2) nd rfl (Or.inl rfl) (pe_op op_mod (pe_callTy call_int1 rfl G.int boot_int (pa_cons (pe_op op_add (pe_op op_add (pe_op op_mul (pv 0) pe_int) (pe_op op_mul (pv 1) pe_int)) pe_int) pa_nil)) pe_int))
    (pss_one (ps_ret (pe_op op_mod (pe_callTy call_int1 rfl G.int boot_int (pa_cons (pe_op op_add (pe_op op_add (pe_op op_mul (pv 2) pe_int) (pe_op op_mul (pv 1) pe_int)) pe_int) pa_nil)) pe_int))), ?_⟩
  refine ⟨_, rfl, _, _, rfl, rfl, .inr ⟨by decide, by decide⟩, _, rfl, _, _, rfl, rfl, .inr ⟨by decide, by decide⟩, _, _, rfl, rfl, _, _, rfl, rfl, .inl ⟨_, rfl, _, _, rfl, rfl, (by show (0 : Int) < _; decide), ?_⟩⟩
  refine ⟨_, rfl, _, _, rfl, rfl, .inr ⟨by decide, by decide⟩, _, rfl, _, _, rfl, rfl, .inr ⟨by decide, by decide⟩, _, _, rfl, rfl, _, _, rfl, rfl, .inl ⟨_, rfl, _, _, rfl, rfl, (by show (0 : Int) < _; decide), ?_⟩⟩
  refine q _ (Int.emod_nonneg _ (by decide)) (Int.lt_of_lt_of_le (Int.emod_lt_of_pos _ (by decide)) (by decide))
end
/-! ### _law_numbers -/
theorem cut_take (zs : List Int) (k : Nat) : cutV (zs.map V.int) none (some (k : Int)) = (zs.take k).map V.int := by
  unfold cutV
  rw [HT.sIx_none, HT.sIx_nat, List.drop_zero, Nat.sub_zero, List.map_take, List.length_map]
  rcases Nat.le_total k zs.length with h | h
  · rw [Nat.min_eq_left h]
  · rw [Nat.min_eq_right h, List.take_of_length_le (by rw [List.length_map]; exact Nat.le_refl _), List.take_of_length_le (by rw [List.length_map]; exact h)]
def spNumbers (K : PySem.W.Frag) : Sp := fun vs H Q _ => ∃ (a : Addr) (zs : List Int) (c : Nat), vs = [.ref a, .int c] ∧ SqL K H a (zs.map V.int) ∧ zs.length ≤ 63 ∧ c ≤ 1000 ∧
  ∀ (H' : Hp) (p : Addr) (ns : List Int), ExtP H H' → H p = none → H' p = some (.lst (ns.map V.int)) → ns.length = c → (∀ n ∈ ns, 0 ≤ n ∧ n < 1000) → Q (.ref p) H'
abbrev sNumbers : Stmt := top 49
theorem scNumbers : FnScope ["script", "count", "found", "total", "cell", "number", "k"] ["script", "count"] (defScope sNumbers) := ⟨rfl, rfl, rfl, by decide +kernel, rfl, by decide +kernel, by decide +kernel⟩
section
variable {P : Program} {w : World} {K : PySem.W.Frag} {mg : Str → Option Value} {base : Heap} {f T : Addr} {fd : FuncData}
/-- the list at l holds small numbers -/
def FdAt (H0 H : Hp) (l : Addr) (ns : List Int) : Prop := ExtP H0 H ∧ H l = some (.lst (ns.map V.int)) ∧ ∀ n ∈ ns, 0 ≤ n ∧ n < 1000
theorem FdAt.push {H0 H : Hp} {l : Addr} {ns : List Int} {x : Int} (h : FdAt H0 H l ns) (hl : H0 l = none) (hx : 0 ≤ x ∧ x < 1000) : FdAt H0 (upd H l (.lst (ns.map V.int ++ [.int x]))) l (ns ++ [x]) := by
  refine ⟨h.1.upd_new hl, by rw [upd_same, List.map_append]; rfl, fun n hn => ?_⟩
  rcases List.mem_append.mp hn with z | z
  · exact h.2.2 n z
  · rw [List.mem_singleton.mp z]; exact hx
theorem mod1000 (x : Int) : 0 ≤ x % 1000 ∧ x % 1000 < 1000 := ⟨Int.emod_nonneg _ (by decide), Int.emod_lt_of_pos _ (by decide)⟩
theorem ok_numbers (F : Fun K "_law_numbers" "_law_numbers" sNumbers f fd) (G : Glb mg) (DM : Def P w K mg base "_law_mix" 1 ["first", "second"] spMix) : FnOk P w K mg base CX0 2 f fd ["script", "count"] (spNumbers K) := by
  refine F.ok scNumbers (fun vs H Q E h => ?_) (fun cdv A outer s H vs Q E hr h => ?_)
  · obtain ⟨a, zs, c, rfl, _⟩ := h
    rfl
  obtain ⟨a, zs, c, rfl, hS, h63, hc, q⟩ := h
  have nd := scNumbers.nd
  refine ⟨_, (pss_cons (ps_set (i := 2) nd rfl (Or.inl rfl) (pe_lst pa_nil))
    (pss_cons (ps_set (i := 3) nd rfl (Or.inl rfl) (pe_op op_add (pe_callB call_len rfl G.len PySem.boot_len (pa_cons (pv 0) pa_nil)) pe_int))
    (pss_cons (ps_for PassesOwn.never rfl (pi_list (pe_slice sl_list (pv 0) po_none (po_some pe_int))) (pg_name (i := 4) nd rfl (Or.inl rfl)) (pss_cons (ps_set (i := 5) nd rfl (Or.inl rfl) (pe_callB call_abs rfl G.abs (by decide +kernel) (pa_cons (pv 4) pa_nil)))
    (pss_cons (ps_set (i := 3) nd rfl (Or.inl rfl) (pe_c DM (hr) (pa_cons (pv 3) (pa_cons (pe_op op_mod (pe_callTy call_int1 rfl G.int boot_int (pa_cons (pv 5) pa_nil)) pe_int) pa_nil))))
    (pss_one (ps_if (pt_cmpR op_ge (pv 5) (pe_op op_pow pe_int pe_int) (nomark _)) (pss_one (ps_for PassesOwn.never rfl (pi_range1 rfl G.range (pa_cons pe_int pa_nil)) (pg_name (i := 6) nd rfl (Or.inl rfl)) (pss_one (ps_if (pt_cmpR op_gt (pv 5) pe_int (nomark _)) (pss_cons (ps_expr (pe_bm PySem.F.plainAttrs_list PySem.F.slot_list_append PySem.F.type_list_append mt_append (pv 2) (pa_cons (pe_op op_mod (pe_callTy call_int1 rfl G.int boot_int (pa_cons (pv 5) pa_nil)) pe_int) pa_nil)))
    (pss_one (ps_set (i := 5) nd rfl (Or.inl rfl) (pe_op op_fdiv (pv 5) pe_int)))) pss_nil)))) (pss_one (ps_for PassesOwn.never rfl (pi_range1 rfl G.range (pa_cons pe_int pa_nil)) (pg_name (i := 6) nd rfl (Or.inl rfl)) (pss_one (ps_expr (pe_bm PySem.F.plainAttrs_list PySem.F.slot_list_append PySem.F.type_list_append mt_append (pv 2) (pa_cons (pe_op op_mod (pe_callTy call_int1 rfl G.int boot_int (pa_cons (pe_c DM (hr) (pa_cons (pv 5) (pa_cons (pe_op op_add (pv 6) pe_int) pa_nil))) pa_nil)) pe_int) pa_nil)))))))))))
    (pss_cons (ps_for PassesOwn.never rfl (pi_range1 rfl G.range (pa_cons (pv 1) pa_nil)) (pg_name (i := 6) nd rfl (Or.inl rfl)) (pss_one (ps_if (pt_cmpR op_lt (pe_callB call_len rfl G.len PySem.boot_len (pa_cons (pv 2) pa_nil)) (pv 1) (nomark _)) (pss_cons (ps_set (i := 3) nd rfl (Or.inl rfl) (pe_c DM (hr) (pa_cons (pv 3) (pa_cons (pe_op op_add (pv 6) pe_int) pa_nil))))
    (pss_one (ps_expr (pe_bm PySem.F.plainAttrs_list PySem.F.slot_list_append PySem.F.type_list_append mt_append (pv 2) (pa_cons (pe_op op_mod (pe_callTy call_int1 rfl G.int boot_int (pa_cons (pv 3) pa_nil)) pe_int) pa_nil))))) pss_nil)))
    (pss_one (ps_ret (pe_slice sl_list (pv 2) po_none (po_some (pv 1))))))))), ?_⟩
  refine ⟨Nat.zero_le _, fun l hl => ?_⟩
  have e0 : ExtP H (upd H l (.lst [])) := Ext.new hl _
  refine ⟨_, rfl, _, _, rfl, .inl ⟨_, e0.sqL hS, rfl⟩, _, _, rfl, rfl, ?_⟩
  refine ⟨_, rfl, _, rfl, a, _, rfl, e0.sqL hS, fun p hp => ?_⟩
  have hcut : cutV (zs.map V.int) none (some 63) = zs.map V.int := by
    have := cut_take zs 63
    rw [List.take_of_length_le h63] at this
    exact this
  rw [hcut]
  have e1 : ExtP H (upd (upd H l (.lst [])) p (.lst (zs.map V.int))) := e0.trans (Ext.new hp _)
  have hpl : l ≠ p := ne_of_none (H := upd H l (.lst [])) upd_same hp
  have hpH : H p = none := by rw [upd_ne (Ne.symm hpl)] at hp; exact hp
  have small : ∀ (ns : List Int) (n : Nat), ns.length ≤ n → n ≤ 100000 → (ns.map V.int).length < sizeLine := fun ns n h1 h2 => by
    rw [List.length_map, sizeLine_eq]
    omega
  refine ⟨p, rfl, ⟨_, SqL.of upd_same⟩, ?_⟩
  refine for_list (xs := zs.map V.int) (fun i σ H' => ∃ (t : Int) (o4 o5 o6 : Option V) (ns : List Int), σ = [some (.ref a), some (.int c), some (.ref l), some (.int t), o4, o5, o6] ∧ FdAt H H' l ns ∧ ns.length ≤ 60 * i ∧ H' p = some (.lst (zs.map V.int)))
    ⟨_, none, none, none, [], rfl, ⟨e1, (upd_ne hpl).trans upd_same, fun n hn => by cases hn⟩, Nat.zero_le _, upd_same⟩ (fun i σ H' _ ⟨_, _, _, _, _, _, _, _, h⟩ => SqL.of h) (fun i x σ H' hx ⟨t, o4, o5, o6, ns, eσ, fd, hle, hpp⟩ => ?_) fun σ H' ⟨t, o4, o5, o6, ns, eσ, fd, hle, _⟩ => ?_
  · subst eσ
    rw [List.getElem?_map, Option.map_eq_some_iff] at hx
    obtain ⟨z, hz, rfl⟩ := hx
    have hi63 : i < 63 := by
      have := (List.getElem?_eq_some_iff.mp hz).1
      omega
    refine ⟨_, rfl, z, rfl, ?_⟩
    have h0 : 0 ≤ (if z < 0 then -z else z) := by split <;> omega
    generalize (if z < 0 then -z else z) = m at h0 ⊢
    refine ⟨_, rfl, _, rfl, .inl ⟨m, rfl, m, 2147483647, rfl, rfl, (by show (0 : Int) < _; decide), _, _, rfl, fun r _ _ => ?_⟩⟩
    refine ⟨_, rfl, 10, 18, rfl, rfl, ⟨by decide, by decide, by decide⟩, m, _, rfl, rfl, _, rfl, ?_⟩
    refine ite2 (fun c1 => ?_) (fun c1 => ?_)
    · refine ⟨60, rfl, by decide, by decide, for_range (lo := 0) (n := 60) (fun j σ H' => ∃ (m : Int) (o6 : Option V) (ns : List Int), σ = [some (.ref a), some (.int c), some (.ref l), some (.int r), some (.int z), some (.int m), o6] ∧ FdAt H H' l ns ∧ ns.length ≤ 60 * i + j ∧ H' p = some (.lst (zs.map V.int)) ∧ 0 ≤ m)
        ⟨m, o6, ns, rfl, fd, hle, hpp, h0⟩ (fun j σ H' hj ⟨m, o6, ns, eσ, fd, hle, hpp, h0⟩ => ?_) fun σ H' ⟨m, o6, ns, eσ, fd, hle, hpp, h0⟩ => ⟨r, _, _, _, ns, eσ, fd, by omega, hpp⟩⟩
      subst eσ
      refine ⟨_, rfl, m, 0, rfl, rfl, _, rfl, ?_⟩
      refine ite2 (fun c2 => ?_) (fun c2 => ?_)
      · refine ⟨_, rfl, .inl ⟨rfl, _, SqL.of fd.2.1⟩, _, rfl, .inl ⟨m, rfl, m, 1000, rfl, rfl, (by show (0 : Int) < _; decide), l, _, _, rfl, rfl, fd.2.1, small ns _ hle (by omega), ?_⟩⟩
        refine ⟨_, rfl, m, 1000, rfl, rfl, ⟨by decide, by decide⟩, ?_⟩
        refine ⟨_, _, ns ++ [m % 1000], rfl, fd.push hl (mod1000 m), ?_, (upd_ne (Ne.symm hpl)).trans hpp, Int.ediv_nonneg h0 (by decide)⟩
        rw [List.length_append]
        simp
        omega
      · exact ⟨m, _, ns, rfl, fd, by omega, hpp, h0⟩
    · refine ⟨6, rfl, by decide, by decide, for_range (lo := 0) (n := 6) (fun j σ H' => ∃ (o6 : Option V) (ns : List Int), σ = [some (.ref a), some (.int c), some (.ref l), some (.int r), some (.int z), some (.int m), o6] ∧ FdAt H H' l ns ∧ ns.length ≤ 60 * i + j ∧ H' p = some (.lst (zs.map V.int)))
        ⟨o6, ns, rfl, fd, hle, hpp⟩ (fun j σ H' hj ⟨o6, ns, eσ, fd, hle, hpp⟩ => ?_) fun σ H' ⟨o6, ns, eσ, fd, hle, hpp⟩ => ⟨r, _, _, _, ns, eσ, fd, by omega, hpp⟩⟩
      subst eσ
      refine ⟨_, rfl, .inl ⟨rfl, _, SqL.of fd.2.1⟩, _, rfl, _, rfl, _, _, rfl, rfl, _, _, rfl, fun r2 _ _ => .inl ⟨r2, rfl, r2, 1000, rfl, rfl, (by show (0 : Int) < _; decide), l, _, _, rfl, rfl, fd.2.1, small ns _ hle (by omega), ?_⟩⟩
      refine ⟨_, ns ++ [r2 % 1000], rfl, fd.push hl (mod1000 r2), ?_, (upd_ne (Ne.symm hpl)).trans hpp⟩
      rw [List.length_append]
      simp
      omega
  · subst eσ
    rw [List.length_map] at hle
    refine ⟨_, rfl, c, rfl, by omega, by omega, ?_⟩
    refine for_range (lo := 0) (n := c) (fun j σ H' => ∃ (t : Int) (o6 : Option V) (ns : List Int), σ = [some (.ref a), some (.int c), some (.ref l), some (.int t), o4, o5, o6] ∧ FdAt H H' l ns ∧ ns.length ≤ 60 * 63 + j ∧ min j c ≤ ns.length)
      ⟨t, o6, ns, rfl, fd, by omega, by omega⟩ (fun j σ H' hj ⟨t, o6, ns, eσ, fd, hle, hmin⟩ => ?_) fun σ H' ⟨t, o6, ns, eσ, fd, hle, hmin⟩ => ?_
    · subst eσ
      refine ⟨_, rfl, _, _, rfl, .inl ⟨_, SqL.of fd.2.1, rfl⟩, _, rfl, _, _, rfl, rfl, _, rfl, ?_⟩
      refine ite2 (fun c1 => ?_) (fun c1 => ?_)
      · refine ⟨_, rfl, _, rfl, _, _, rfl, rfl, _, _, rfl, fun r2 _ _ => ?_⟩
        refine ⟨_, rfl, .inl ⟨rfl, _, SqL.of fd.2.1⟩, _, rfl, .inl ⟨r2, rfl, r2, 1000, rfl, rfl, (by show (0 : Int) < _; decide), l, _, _, rfl, rfl, fd.2.1, small ns _ hle (by omega), ?_⟩⟩
        refine ⟨_, _, ns ++ [r2 % 1000], rfl, fd.push hl (mod1000 r2), ?_, ?_⟩
        · rw [List.length_append]
          simp
          omega
        · rw [List.length_append]
          simp
          omega
      · have c2 : ¬ ((ns.map V.int).length : Int) < (c : Int) := fun z => c1 (decide_eq_true z)
        rw [List.length_map] at c2
        exact ⟨t, _, ns, rfl, fd, by omega, by omega⟩
    · subst eσ
      refine ⟨_, rfl, _, rfl, c, rfl, l, _, rfl, SqL.of fd.2.1, fun p2 hp2 => ?_⟩
      have hp3 : H p2 = none := fd.1.non p2 hp2
      rw [cut_take]
      refine q _ p2 (ns.take c) (fd.1.trans (Ext.new hp2 _)) hp3 upd_same ?_ fun n hn => fd.2.2 n (List.mem_of_mem_take hn)
      rw [List.length_take]
      omega
end
end Mint


namespace Mint
open PySem PySem.Spec PyProof.Rows L2 GxR Gx RZ

/-! ### _law_draws, _law_take -/
abbrev kAt : Key := .inr "at"
abbrev kRow : Key := .inr "row"
/-- the draws at d -/
def Draw (H : Hp) (d p : Addr) : Prop := ∃ (at_ : Int) (ns : List Int), H d = some (.dK [(kAt, .int at_), (kRow, .ref p)]) ∧ H p = some (.lst (ns.map V.int)) ∧ 0 ≤ at_ ∧ 0 < ns.length ∧ ns.length ≤ 1000 ∧ ∀ n ∈ ns, 0 ≤ n ∧ n < 1000
theorem Draw.ext {H H1 : Hp} {d p : Addr} (h : Draw H d p) (e : ExtP H H1) : Draw H1 d p := by
  obtain ⟨a, ns, h1, h2, r⟩ := h
  exact ⟨a, ns, e.obj _ _ rfl h1, e.obj _ _ rfl h2, r⟩
theorem Draw.upd {H H1 : Hp} {d p l : Addr} {o : HO} (h : Draw H1 d p) (h0 : Draw H d p) (hl : H l = none) : Draw (upd H1 l o) d p := by
  obtain ⟨_, _, q1, q2, _⟩ := h0
  obtain ⟨a, ns, h1, h2, r⟩ := h
  exact ⟨a, ns, (upd_ne (ne_of_none q1 hl)).trans h1, (upd_ne (ne_of_none q2 hl)).trans h2, r⟩
def spDraws (K : PySem.W.Frag) : Sp := fun vs H Q _ => ∃ (a : Addr) (zs : List Int) (c : Nat), vs = [.ref a, .int c] ∧ SqL K H a (zs.map V.int) ∧ zs.length ≤ 63 ∧ 0 < c ∧ c ≤ 1000 ∧
  ∀ (H' : Hp) (d p : Addr), ExtP H H' → H d = none → H p = none → Draw H' d p → Q (.ref d) H'
def spTake : Sp := fun vs H Q _ => ∃ (d p : Addr) (b : Int), vs = [.ref d, .int b] ∧ Draw H d p ∧ 0 < b ∧ ∀ (H' : Hp) (v : Int), ExtL H H' → Draw H' d p → 0 ≤ v → v < b → Q (.int v) H'
abbrev sDraws : Stmt := top 50
abbrev sTake : Stmt := top 51
theorem scDraws : FnScope ["script", "count"] ["script", "count"] (defScope sDraws) := ⟨rfl, rfl, rfl, by decide +kernel, rfl, by decide +kernel, by decide +kernel⟩
theorem scTake : FnScope ["draws", "bound", "row", "at", "value"] ["draws", "bound"] (defScope sTake) := ⟨rfl, rfl, rfl, by decide +kernel, rfl, by decide +kernel, by decide +kernel⟩
section
variable {P : Program} {w : World} {K : PySem.W.Frag} {mg : Str → Option Value} {base : Heap} {f T : Addr} {fd : FuncData}
theorem ok_draws (F : Fun K "_law_draws" "_law_draws" sDraws f fd) (G : Glb mg) (DN : Def P w K mg base "_law_numbers" 2 ["script", "count"] (spNumbers K)) : FnOk P w K mg base CX0 3 f fd ["script", "count"] (spDraws K) := by
  refine F.ok scDraws (fun vs H Q E h => ?_) (fun cdv A outer s H vs Q E hr h => ?_)
  · obtain ⟨a, zs, c, rfl, _⟩ := h
    rfl
  obtain ⟨a, zs, c, rfl, hS, h63, hc0, hc, q⟩ := h
  have nd := scDraws.nd
  refine ⟨_, (pss_one (ps_ret (pe_disp (pps_cons pe_str pe_int (pps_cons pe_str (pe_c DN (hr) (pa_cons (pv 0) (pa_cons (pv 1) pa_nil))) pps_nil)) (by rfl) (by rfl) (fun z => by cases z) (by decide)))), ?_⟩
  refine fun d hd => ?_
  have e0 : ExtP H (upd H d (.dK [])) := Ext.new hd _
  refine ⟨_, rfl, _, rfl, a, zs, c, rfl, e0.sqL hS, h63, hc, fun H' p ns e1 hp hpl hlen hns => ?_⟩
  have hdK : H' d = some (.dK []) := e1.obj _ _ rfl upd_same
  have hpd : p ≠ d := fun z => by rw [z, upd_same] at hp; cases hp
  refine ⟨hdK, [(kAt, .int 0), (kRow, .ref p)], rfl, (by show 2 ≤ 15; decide), ?_⟩
  refine q _ d p ((e0.trans e1).upd_new hd) hd (e0.non p hp) ⟨0, ns, upd_same, (upd_ne hpd).trans hpl, Int.le_refl 0, by omega, by omega, hns⟩
theorem ok_take (F : Fun K "_law_take" "_law_take" sTake f fd) (G : Glb mg) : FnOk P w K mg base CX0 1 f fd ["draws", "bound"] spTake := by
  refine F.ok scTake (fun vs H Q E h => ?_) (fun cdv A outer s H vs Q E hr h => ?_)
  · obtain ⟨d, p, b, rfl, _⟩ := h
    rfl
  obtain ⟨d, p, b, rfl, ⟨at_, ns, hd, hp, h0, hl0, hl, hns⟩, hb, q⟩ := h
  have nd := scTake.nd
  refine ⟨_, (pss_cons (ps_set (i := 2) nd rfl (Or.inl rfl) (pe_dget (hu_of hr) (pv 0) pe_str (fun _ _ => rfl)))
    (pss_cons (ps_set (i := 3) nd rfl (Or.inl rfl) (pe_dget (hu_of hr) (pv 0) pe_str (fun _ _ => rfl)))
    (pss_cons (ps_dput (hu_of hr) (pv 0) pe_str (pe_op op_add (pv 3) pe_int) rfl)
    (pss_cons (ps_set (i := 4) nd rfl (Or.inl rfl) (pe_op op_add (pe_ix ix_list (pv 2) (pe_op op_mod (pe_callTy call_int1 rfl G.int boot_int (pa_cons (pv 3) pa_nil)) (pe_callB call_len rfl G.len PySem.boot_len (pa_cons (pv 2) pa_nil))) (fun _ _ => rfl)) (pe_op op_fdiv (pv 3) (pe_callB call_len rfl G.len PySem.boot_len (pa_cons (pv 2) pa_nil)))))
    (pss_one (ps_ret (pe_op op_mod (pe_callTy call_int1 rfl G.int boot_int (pa_cons (pv 4) pa_nil)) (pv 1)))))))), ?_⟩
  refine ⟨_, rfl, d, .ref p, rfl, DGet.k (k := kRow) hd, ?_⟩
  refine ⟨_, rfl, d, .int at_, rfl, DGet.k (k := kAt) hd, ?_⟩
  refine ⟨_, rfl, at_, 1, rfl, rfl, _, rfl, d, _, rfl, DPut.k (k := kAt) hd (by show 2 < sizeLine; decide), ?_⟩
  have eL : ExtL H (upd H d (.dK [(kAt, .int (at_ + 1)), (kRow, .ref p)])) := (Ext.refl false H).upd_dK hd
  have hpd : p ≠ d := ne_of hp hd (fun z => by cases z)
  have hp1 : upd H d (.dK [(kAt, .int (at_ + 1)), (kRow, .ref p)]) p = some (.lst (ns.map V.int)) := (upd_ne hpd).trans hp
  have lk : ((ns.map V.int).length : Int) = (ns.length : Int) := by rw [List.length_map]
  have hi0 : 0 ≤ at_ % (ns.length : Int) := Int.emod_nonneg _ (by omega)
  have hi1 : at_ % (ns.length : Int) < ns.length := Int.emod_lt_of_pos _ (by omega)
  have hget : (at_ % (ns.length : Int)).toNat < ns.length := by omega
  have hat : atI (ns.map V.int) (at_ % ((ns.map V.int).length : Int)) = some (.int ns[(at_ % (ns.length : Int)).toNat]) := by
    rw [lk]
    have := atI_nat (xs := ns.map V.int) (j := (at_ % (ns.length : Int)).toNat) (v := .int ns[(at_ % (ns.length : Int)).toNat]) (by rw [List.getElem?_map, List.getElem?_eq_getElem hget]; rfl)
    rw [Int.toNat_of_nonneg hi0] at this
    exact this
  refine ⟨_, rfl, _, rfl, .inl ⟨at_, rfl, _, rfl, .ref p, _, rfl, .inl ⟨_, SqL.of hp1, rfl⟩, _, _, rfl, rfl, (by show (0 : Int) < _; omega), p, _, _, _, rfl, rfl, SqL.of hp1, hat, ?_⟩⟩
  refine ⟨_, rfl, _, rfl, .ref p, _, rfl, .inl ⟨_, SqL.of hp1, rfl⟩, _, _, rfl, rfl, (by constructor <;> omega), ?_⟩
  refine ⟨_, _, rfl, rfl, ?_⟩
  refine ⟨_, rfl, .inl ⟨_, rfl, _, rfl, _, _, rfl, rfl, hb, ?_⟩⟩
  exact q _ _ eL ⟨at_ + 1, ns, upd_same, hp1, by omega, hl0, hl, hns⟩ (Int.emod_nonneg _ (by omega)) (Int.emod_lt_of_pos _ hb)
end
end Mint


namespace Fw
open PySem PySem.Spec PyProof.Rows L2 GxR Gx Gy RZ Mint
/-! ### the draws, the script -/
def drawsO (K : PySem.W.Frag) : Own K where
  R := fun H v F => ∃ d p, v = .ref d ∧ F = [d, p] ∧ Draw H d p
  keep := fun {H H' v F G} ⟨d, p, e, eF, a, ns, h1, h2, r⟩ n k => by
    subst eF
    exact ⟨d, p, e, rfl, a, ns, k.obj _ _ (n d List.mem_cons_self) rfl h1, k.obj _ _ (n p (List.mem_cons_of_mem _ List.mem_cons_self)) rfl h2, r⟩
  live := fun {H v F} ⟨d, p, e, eF, a, ns, h1, h2, r⟩ x hx z => by
    subst eF
    rcases List.mem_cons.mp hx with rfl | hx
    · rw [h1] at z; cases z
    · rw [List.mem_singleton.mp hx, h2] at z; cases z
  ref := fun ⟨d, _, e, _⟩ => ⟨d, e⟩
/-- the script: an object that is read only; whatever stands there must be tracked -/
def scriptO (K : PySem.W.Frag) (zs : List Int) : Own K where
  R := fun H v F => ∃ a, v = .ref a ∧ ((F = [a] ∧ Rd H a (.lst (zs.map V.int))) ∨ (F = [] ∧ ∀ H', SqL K H' a (zs.map V.int)))
  keep := fun {H H' v F G} ⟨a, e, h⟩ n k => by
    refine ⟨a, e, ?_⟩
    rcases h with ⟨eF, h⟩ | h
    · subst eF
      have na := n a (List.mem_singleton.mpr rfl)
      rcases h with h | ⟨o, h⟩
      · exact .inl ⟨rfl, .inl (k.obj _ _ na rfl h)⟩
      · exact .inl ⟨rfl, .inr ⟨o, k.obj _ _ na rfl h⟩⟩
    · exact .inr h
  live := fun {H v F} ⟨a, e, h⟩ x hx z => by
    rcases h with ⟨eF, h⟩ | ⟨eF, h⟩
    · subst eF
      rw [List.mem_singleton.mp hx] at z
      rcases h with h | ⟨o, h⟩ <;> rw [h] at z <;> cases z
    · subst eF
      cases hx
  ref := fun ⟨d, e, _⟩ => ⟨d, e⟩
theorem script_sql {K : PySem.W.Frag} {zs : List Int} {H : Hp} {v : V} {F : List Addr} (h : (scriptO K zs).R H v F) : ∃ a, v = .ref a ∧ SqL K H a (zs.map V.int) := by
  obtain ⟨a, e, ⟨_, h⟩ | ⟨_, h⟩⟩ := h
  · exact ⟨a, e, .inl h⟩
  · exact ⟨a, e, h H⟩
theorem script_of {K : PySem.W.Frag} {zs : List Int} {H : Hp} {a : Addr} (h : SqL K H a (zs.map V.int)) : ∃ F, (scriptO K zs).R H (.ref a) F := by
  rcases h with h | h
  · exact ⟨[a], a, rfl, .inl ⟨rfl, h⟩⟩
  · exact ⟨[], a, rfl, .inr ⟨rfl, fun _ => .inr h⟩⟩
def g_take (K : PySem.W.Frag) : GF K := fun cs Q => ∃ b : Int, cs = [.x (drawsO K), .d (.int b)] ∧ 0 < b ∧ ∀ v : Int, 0 ≤ v → v < b → Q (.d (.int v)) cs
def g_draws (K : PySem.W.Frag) : GF K := fun cs Q => ∃ (zs : List Int) (c : Nat), cs = [.x (scriptO K zs), .d (.int c)] ∧ zs.length ≤ 63 ∧ 0 < c ∧ c ≤ 1000 ∧ Q (.x (drawsO K)) cs
section
variable {P : Program} {w : World} {K : PySem.W.Frag} {mg : Str → Option Value} {base : Heap} {f T : Addr} {fd : FuncData} {Ps : List Addr}
theorem ok_drawsF (F : FnOk P w K mg base CX0 3 f fd ["script", "count"] (spDraws K)) : FnOk P w K mg base CX0 3 f fd ["script", "count"] (spA K Ps (g_draws K)) := F.imp fun vs H Q E h => by
  obtain ⟨cs, Ls, Q', hR, hdj, ht, ⟨zs, c, rfl, h63, h0, hc, hq⟩, q⟩ := h
  cases hR with
  | @cons _ _ _ _ L1 _ r t =>
    cases t with
    | @cons _ _ _ _ L2 _ r2 t =>
      cases t
      have r0 := r
      obtain ⟨a, rfl, hS⟩ := script_sql r
      have e2 := r2.1.int_inv
      subst e2
      refine ⟨a, zs, c, rfl, hS, h63, h0, hc, fun H' d p e hd1 hp1 hD => ?_⟩
      have k : Kp (inL [L1, L2]) H H' := .of_ext e
      refine q (.ref d) H' (.x (drawsO K)) _ [d, p] k ?_ ⟨d, p, rfl, rfl, hD⟩ (fun x hx => ?_) hq
      · refine (.cons ((scriptO K zs).keep r0 (fun _ _ z => z) (Kp.of_ext (F := F0) e)) (.cons ⟨r2.1.keep k, r2.2⟩ .nil))
      · rcases List.mem_cons.mp hx with rfl | hx
        · exact hd1
        · rw [List.mem_singleton.mp hx]; exact hp1
theorem ok_takeF (F : Fun K "_law_take" "_law_take" sTake f fd) (G : Glb mg) : FnOk P w K mg base CX0 1 f fd ["draws", "bound"] (spA K Ps (g_take K)) := by
  refine F.ok scTake (fun vs H Q E h => ?_) (fun cdv A outer s H vs Q E hr h => ?_)
  · obtain ⟨cs, Ls, Q', hR, hd, ht, ⟨b, rfl, _⟩, q⟩ := h
    rw [hR.len1]; rfl
  obtain ⟨cs, Ls, Q', hR, hdj, ht, ⟨b, rfl, hb, hq⟩, q⟩ := h
  cases hR with
  | @cons _ _ _ _ _ _ r t =>
    cases t with
    | @cons _ _ _ _ L2 _ r2 t =>
      cases t
      obtain ⟨d, p, rfl, rfl, at_, ns, hd, hp, h0, hl0, hl, hns⟩ := r
      have e2 := r2.1.int_inv
      subst e2
      have eL2 := r2.2
      subst eL2
      have nd := scTake.nd
      refine ⟨_, (pss_cons (ps_set (i := 2) nd rfl (Or.inl rfl) (pe_dget (hu_of hr) (pv 0) pe_str (fun _ _ => rfl)))
        (pss_cons (ps_set (i := 3) nd rfl (Or.inl rfl) (pe_dget (hu_of hr) (pv 0) pe_str (fun _ _ => rfl)))
        (pss_cons (ps_dput (hu_of hr) (pv 0) pe_str (pe_op op_add (pv 3) pe_int) rfl)
        (pss_cons (ps_set (i := 4) nd rfl (Or.inl rfl) (pe_op op_add (pe_ix ix_list (pv 2) (pe_op op_mod (pe_callTy call_int1 rfl G.int boot_int (pa_cons (pv 3) pa_nil)) (pe_callB call_len rfl G.len PySem.boot_len (pa_cons (pv 2) pa_nil))) (fun _ _ => rfl)) (pe_op op_fdiv (pv 3) (pe_callB call_len rfl G.len PySem.boot_len (pa_cons (pv 2) pa_nil)))))
        (pss_one (ps_ret (pe_op op_mod (pe_callTy call_int1 rfl G.int boot_int (pa_cons (pv 4) pa_nil)) (pv 1)))))))), ?_⟩
      refine ⟨_, rfl, d, .ref p, rfl, DGet.k (k := kRow) hd, ?_⟩
      refine ⟨_, rfl, d, .int at_, rfl, DGet.k (k := kAt) hd, ?_⟩
      refine ⟨_, rfl, at_, 1, rfl, rfl, _, rfl, d, _, rfl, DPut.k (k := kAt) hd (by show 2 < sizeLine; decide), ?_⟩
      have hpd : p ≠ d := ne_of hp hd (fun z => by cases z)
      have hp1 : upd H d (.dK [(kAt, .int (at_ + 1)), (kRow, .ref p)]) p = some (.lst (ns.map V.int)) := (upd_ne hpd).trans hp
      have lk : ((ns.map V.int).length : Int) = (ns.length : Int) := by rw [List.length_map]
      have hi0 : 0 ≤ at_ % (ns.length : Int) := Int.emod_nonneg _ (by omega)
      have hi1 : at_ % (ns.length : Int) < ns.length := Int.emod_lt_of_pos _ (by omega)
      have hget : (at_ % (ns.length : Int)).toNat < ns.length := by omega
      have hat : atI (ns.map V.int) (at_ % ((ns.map V.int).length : Int)) = some (.int ns[(at_ % (ns.length : Int)).toNat]) := by
        rw [lk]
        have := Fw.atI_nat (xs := ns.map V.int) (n := (at_ % (ns.length : Int)).toNat) (x := .int ns[(at_ % (ns.length : Int)).toNat]) (by rw [List.getElem?_map, List.getElem?_eq_getElem hget]; rfl)
        rw [Int.toNat_of_nonneg hi0] at this
        exact this
      refine ⟨_, rfl, _, rfl, .inl ⟨at_, rfl, _, rfl, .ref p, _, rfl, .inl ⟨_, SqL.of hp1, rfl⟩, _, _, rfl, rfl, (by show (0 : Int) < _; omega), p, _, _, _, rfl, rfl, SqL.of hp1, hat, ?_⟩⟩
      refine ⟨_, rfl, _, rfl, .ref p, _, rfl, .inl ⟨_, SqL.of hp1, rfl⟩, _, _, rfl, rfl, (by constructor <;> omega), ?_⟩
      refine ⟨_, _, rfl, rfl, ?_⟩
      refine ⟨_, rfl, .inl ⟨_, rfl, _, rfl, _, _, rfl, rfl, hb, ?_⟩⟩
      have k : Kp (inL [[d, p], []]) H (upd H d (.dK [(kAt, .int (at_ + 1)), (kRow, .ref p)])) := .put ⟨[d, p], List.mem_cons_self, List.mem_cons_self⟩ hd (fun _ z => by cases z) (fun _ _ z => by cases z) (fun _ z => by cases z)
      refine q _ _ (.d (.int _)) [.x (drawsO K), .d (.int b)] [] k ?_ ⟨.int _, rfl⟩ (fun a z => nomatch z) (hq _ (Int.emod_nonneg _ (by omega)) (Int.emod_lt_of_pos _ hb))
      exact .cons ⟨d, p, rfl, rfl, at_ + 1, ns, upd_same, hp1, by omega, hl0, hl, hns⟩ (.cons ⟨.int _, rfl⟩ .nil)
end
end Fw


namespace Mint
open PySem PySem.Spec PyProof.Rows L2 GxR Gx RZ

/-! ### _law_stock -/
theorem atI_mem {α : Type} {xs : List α} {i : Int} (h0 : 0 ≤ i) (h1 : i < xs.length) : ∃ v, atI xs i = some v ∧ v ∈ xs := by
  have h2 : i.toNat < xs.length := by omega
  refine ⟨xs[i.toNat], ?_, List.getElem_mem h2⟩
  have := atI_nat (xs := xs) (j := i.toNat) (v := xs[i.toNat]) (List.getElem?_eq_getElem h2)
  rw [Int.toNat_of_nonneg h0] at this
  exact this
def spStockL : Sp := fun vs H Q _ => ∃ (d p0 : Addr) (n : Nat) (m : Int), vs = [.ref d, .int n, .int m] ∧ Draw H d p0 ∧ n ≤ 1000 ∧ 0 ≤ m ∧
  ∀ (H' : Hp) (p : Addr) (es : List Int), ExtL H H' → Draw H' d p0 → H p = none → H' p = some (.tup (es.map V.int)) → es.length = n → (∀ e ∈ es, 0 ≤ e ∧ e ≤ m) → Q (.ref p) H'
abbrev sStockL : Stmt := top 53
theorem scStockL : FnScope ["draws", "n", "most", "entries", "k", "entry"] ["draws", "n", "most"] (defScope sStockL) := ⟨rfl, rfl, rfl, by decide +kernel, rfl, by decide +kernel, by decide +kernel⟩
theorem Draw.new {H : Hp} {d p0 p : Addr} {o : HO} (h : Draw H d p0) (hp : H p = none) : Draw (L2.upd H p o) d p0 := h.ext (Ext.new hp o)
section
variable {P : Program} {w : World} {K : PySem.W.Frag} {mg : Str → Option Value} {base : Heap} {f T : Addr} {fd : FuncData}
theorem ok_stockL (F : Fun K "_law_stock" "_law_stock" sStockL f fd) (G : Glb mg) (DT : Def P w K mg base "_law_take" 1 ["draws", "bound"] spTake) : FnOk P w K mg base CX0 2 f fd ["draws", "n", "most"] spStockL := by
  refine F.ok scStockL (fun vs H Q E h => ?_) (fun cdv A outer s H vs Q E hr h => ?_)
  · obtain ⟨d, p0, n, m, rfl, _⟩ := h
    rfl
  obtain ⟨d, p0, n, m, rfl, hD, hn, hm, q⟩ := h
  have nd := scStockL.nd
  refine ⟨_, (pss_cons (ps_set (i := 3) nd rfl (Or.inl rfl) (pe_lst pa_nil))
    (pss_cons (ps_for PassesOwn.never rfl (pi_range1 rfl G.range (pa_cons (pv 1) pa_nil)) (pg_name (i := 4) nd rfl (Or.inl rfl)) (pss_one (ps_expr (pe_bm PySem.F.plainAttrs_list PySem.F.slot_list_append PySem.F.type_list_append mt_append (pv 3) (pa_cons (pe_ix ix_list (pe_lst (pa_cons pe_int (pa_cons pe_int (pa_cons pe_int (pa_cons pe_int (pa_cons (pe_c DT (hr) (pa_cons (pv 0) (pa_cons (pe_op op_add (pv 2) pe_int) pa_nil))) (pa_cons (pv 2) pa_nil))))))) (pe_c DT (hr) (pa_cons (pv 0) (pa_cons pe_int pa_nil))) (fun _ _ => rfl)) pa_nil)))))
    (pss_one (ps_ret (pe_callTy call_tuple_of rfl G.tuple (by decide +kernel) (pa_cons (pe_lc (own := [("entry", 5)]) (g := gName 5) (te := tCB (fun xs H Q => ∃ i j, xs = [.int i, .int j] ∧ Q (.int (if j < i then j else i)) H) (tCons (tVar 2) (tCons (tVar 5) tNil)))  rfl nd (pi_list (pv 3)) (blkOk_by (own := [("entry", 5)]) (N := ["draws", "n", "most", "entries", "k", "entry"]) (sc := defScope sStockL) (by decide +kernel)) (fun _ _ _ _ _ => (pg_name (i := 5) nd rfl (Or.inl rfl))) (fun _ _ _ _ _ => pts_nil) (fun _ _ _ _ _ => (pe_callB (call_min2 rfl) rfl G.min (by decide +kernel) (pa_cons (pv 2) (pa_cons (pv 5) pa_nil))))) pa_nil)))))), ?_⟩
  refine ⟨Nat.zero_le _, fun l hl => ?_⟩
  have e0 : ExtL H (upd H l (.lst [])) := Ext.new hl _
  refine ⟨_, rfl, n, rfl, by omega, by omega, ?_⟩
  refine for_range (lo := 0) (n := n) (fun i σ H' => ∃ (o4 : Option V) (es : List Int), σ = [some (.ref d), some (.int n), some (.int m), some (.ref l), o4, none] ∧ ExtL H H' ∧ Draw H' d p0 ∧ H' l = some (.lst (es.map V.int)) ∧ es.length = i ∧ ∀ e ∈ es, 0 ≤ e)
    ⟨none, [], rfl, e0, hD.new hl, upd_same, rfl, fun e he => by cases he⟩ (fun i σ H' hi ⟨o4, es, eσ, e1, hD1, hl1, hlen, hes⟩ => ?_) fun σ H' ⟨o4, es, eσ, e1, hD1, hl1, hlen, hes⟩ => ?_
  · subst eσ
    refine ⟨_, rfl, .inl ⟨rfl, _, SqL.of hl1⟩, _, rfl, _, rfl, m, 1, rfl, rfl, d, p0, m + 1, rfl, hD1, by omega, fun H2 v e2 hD2 hv0 hv1 => ?_⟩
    refine ⟨_, rfl, (by show 6 ≤ sizeLine; decide), fun p hp => ?_⟩
    refine ⟨_, rfl, d, p0, 6, rfl, hD2.new hp, by decide, fun H3 i6 e3 hD3 h60 h61 => ?_⟩
    have hp3 : H3 p = some (.lst [.int 0, .int 0, .int 1, .int 2, .int v, .int m]) := e3.obj _ _ rfl upd_same
    have e13 : ExtL H' H3 := (e2.trans (Ext.new hp _)).trans e3
    have hl3 : H3 l = some (.lst (es.map V.int)) := e13.obj _ _ rfl hl1
    obtain ⟨x, hx, hmem⟩ := atI_mem (xs := [V.int 0, .int 0, .int 1, .int 2, .int v, .int m]) h60 (by simpa using h61)
    have hxi : ∃ e : Int, x = .int e ∧ 0 ≤ e := by
      simp at hmem
      rcases hmem with z | z | z | z | z
      · exact ⟨_, z, by decide⟩
      · exact ⟨_, z, by decide⟩
      · exact ⟨_, z, by decide⟩
      · exact ⟨_, z, hv0⟩
      · exact ⟨_, z, hm⟩
    obtain ⟨e, rfl, he0⟩ := hxi
    refine ⟨p, _, i6, .int e, rfl, rfl, SqL.of hp3, hx, l, _, _, rfl, rfl, hl3, (by rw [List.length_map]; exact small1000 (by omega)), ?_⟩
    refine ⟨_, es ++ [e], rfl, (e1.trans e13).upd_new hl, hD3.upd hD hl, by rw [upd_same, List.map_append]; rfl, by rw [List.length_append, hlen]; rfl, fun y hy => ?_⟩
    rcases List.mem_append.mp hy with z | z
    · exact hes y z
    · rw [List.mem_singleton.mp z]; exact he0
  · subst eσ
    refine ⟨_, rfl, l, rfl, ⟨_, SqL.of hl1⟩, fun D hD0 => ?_⟩
    refine lc_list (xs := es.map V.int) (fun i H2 => ExtL H' H2 ∧ Draw H2 d p0 ∧ H2 D = some (.lst (((es.map fun e => if e < m then e else m).take i).map V.int))) ⟨Ext.new hD0 _, hD1.new hD0, upd_same⟩ (fun i H2 _ p => p.1.sqL (SqL.of hl1)) (fun i x H2 hx ⟨e2, hD2, hD3⟩ => ?_) fun H2 ⟨e2, hD2, hD3⟩ => ?_
    · rw [List.getElem?_map, Option.map_eq_some_iff] at hx
      obtain ⟨e, he, rfl⟩ := hx
      refine ⟨rfl, _, rfl, _, rfl, m, e, rfl, _, hD3, ?_, e2.upd_new hD0, hD2.upd hD1 hD0, ?_⟩
      · rw [List.length_map, List.length_take, List.length_map]
        exact small1000 (by omega)
      · rw [upd_same, List.take_add_one, List.getElem?_map, he]
        simp
    · rw [List.length_map, ← List.length_map (f := fun e => if e < m then e else m), List.take_length] at hD3
      refine ⟨D, _, rfl, .inl ⟨SqL.of hD3, fun p hp => ?_⟩⟩
      refine q _ p (es.map fun e => if e < m then e else m) ((e1.trans e2).upd_new ((e1.trans e2).non p hp)) (hD2.upd hD2 hp) ((e1.trans e2).non p hp) upd_same (by rw [List.length_map, hlen]) fun y hy => ?_
      obtain ⟨e, he, rfl⟩ := List.mem_map.mp hy
      have := hes e he
      show 0 ≤ (if e < m then e else m) ∧ (if e < m then e else m) ≤ m
      split <;> omega
end
end Mint


namespace Mint
open PySem PySem.Spec PyProof.Rows L2 GxR Gx RZ

/-! ### _law_named -/
theorem cps_app (a b : Str) : (a ++ b).cps.toList = a.cps.toList ++ b.cps.toList := by
  show (a.cps ++ b.cps).toList = _
  simp
theorem str_ext {a b : Str} (h : a.cps.toList = b.cps.toList) : a = b := by
  obtain ⟨a⟩ := a
  obtain ⟨b⟩ := b
  exact congrArg Str.mk (Array.toList_inj.mp h)
theorem str_len (a : Str) : a.length = a.cps.toList.length := by
  show a.cps.size = _
  simp
theorem join_signs (cs : List Nat) : (Txt.join "" (cs.map fun c => ⟨#[c]⟩)).cps.toList = cs := by
  have e : (Str.ofString "" : Str) = Str.empty := by decide +kernel
  rw [e]
  unfold Txt.join
  rw [StrLaws.glued_eq_join]
  induction cs with
  | nil => rfl
  | cons c r ih =>
    cases r with
    | nil => rfl
    | cons d r =>
      show ((⟨#[c]⟩ ++ Str.empty) ++ Str.join Str.empty ((d :: r).map fun c => (⟨#[c]⟩ : Str))).cps.toList = _
      rw [cps_app, cps_app, ih]
      rfl
/-- a name that was drawn, the i-th one -/
def GoodName (i : Nat) (x : Str) : Prop := ∃ (c0 : Nat) (cs : List Nat), x.cps.toList = c0 :: (cs ++ [97 + i]) ∧ c0 ∈ lettersS.cps.toList ∧ (∀ c ∈ cs, c ∈ signsS.cps.toList) ∧ cs.length ≤ 9 ∧ cs.length ≠ 5
theorem GoodName.inj {i j : Nat} {x : Str} (h : GoodName i x) (h2 : GoodName j x) : i = j := by
  obtain ⟨c0, cs, e, _⟩ := h
  obtain ⟨d0, ds, e2, _⟩ := h2
  rw [e] at e2
  have e3 := congrArg List.getLast? e2
  rw [← List.cons_append, ← List.cons_append, List.getLast?_concat, List.getLast?_concat] at e3
  have := Option.some.inj e3
  omega
theorem GoodName.small {i : Nat} {x : Str} (h : GoodName i x) : x.length ≤ sizeLine := by
  obtain ⟨c0, cs, e, _, _, h9, _⟩ := h
  rw [str_len, e, sizeLine_eq]
  simp
  omega
theorem GoodName.name {i : Nat} {x : Str} (hi : i < 14) (h : GoodName i x) : fNameS x = true := by
  obtain ⟨c0, cs, e, h0, hs, h9, h5⟩ := h
  have hl : x.length = cs.length + 2 := by rw [str_len, e]; simp
  have sub : ∀ c, c ∈ lettersS.cps.toList → okSign c = true := by decide +kernel
  have last : okSign (97 + i) = true := by
    have all : ∀ j : Fin 14, okSign (97 + j.val) = true := by decide +kernel
    exact all ⟨i, hi⟩
  have ne : ∀ y : Str, y.cps.toList ≠ c0 :: (cs ++ [97 + i]) → (y == x) = false := fun y hy => by
    rw [beq_eq_false_iff_ne]
    intro z
    exact hy (by rw [z, e])
  have ends : ∀ (l : List Nat) (z : Nat), l.getLast? = some z → z ≠ 97 + i → l ≠ c0 :: (cs ++ [97 + i]) := fun l z h1 h2 h3 => by
    rw [h3, ← List.cons_append, List.getLast?_concat] at h1
    exact h2 (Option.some.inj h1).symm
  have lens : ∀ (l : List Nat), l.length ≠ cs.length + 2 → l ≠ c0 :: (cs ++ [97 + i]) := fun l h1 h3 => h1 (by rw [h3]; simp)
  have res : inV (.str x) reservedV = false := by
    show ((eqV (.str "kinds") (.str x)) || ((eqV (.str "nothing") (.str x)) || ((eqV (.str "endless") (.str x)) || ((eqV (.str "x") (.str x)) || false)))) = false
    have k1 : eqV (.str "kinds") (.str x) = false := ne "kinds" (ends _ 115 (by decide +kernel) (by omega))
    have n7 : (Str.ofString "nothing").cps.toList.length = 7 := by decide +kernel
    have n1 : (Str.ofString "x").cps.toList.length = 1 := by decide +kernel
    have k2 : eqV (.str "nothing") (.str x) = false := ne "nothing" (lens _ (by rw [n7]; omega))
    have k3 : eqV (.str "endless") (.str x) = false := ne "endless" (ends _ 115 (by decide +kernel) (by omega))
    have k4 : eqV (.str "x") (.str x) = false := ne "x" (lens _ (by rw [n1]; omega))
    rw [k1, k2, k3, k4]
    rfl
  unfold fNameS
  rw [e, res, hl, decide_eq_true (by omega), decide_eq_true (by omega)]
  simp only [Bool.not_false, Bool.and_true, Bool.true_and]
  rw [decide_eq_true h0, Bool.true_and, List.all_cons, sub c0 h0, Bool.true_and, List.all_append, List.all_cons, last]
  simp only [List.all_nil, Bool.and_true]
  exact List.all_eq_true.mpr fun c hc => decide_eq_true (hs c hc)
def spNamed : Sp := fun vs H Q _ => ∃ (d p0 : Addr), vs = [.ref d] ∧ Draw H d p0 ∧ ∀ (H' : Hp) (p : Addr) (xs : List Str), ExtL H H' → Draw H' d p0 → H p = none → H' p = some (.lst (xs.map V.str)) → xs.length = 14 → (∀ i x, xs[i]? = some x → GoodName i x) → Q (.ref p) H'
abbrev sNamed : Stmt := top 52
theorem scNamed : FnScope ["draws", "small", "names", "k", "size", "rest", "n"] ["draws"] (defScope sNamed) := ⟨rfl, rfl, rfl, by decide +kernel, rfl, by decide +kernel, by decide +kernel⟩
section
variable {P : Program} {w : World} {K : PySem.W.Frag} {mg : Str → Option Value} {base : Heap} {f T : Addr} {fd : FuncData}
theorem ok_named (F : Fun K "_law_named" "_law_named" sNamed f fd) (G : Glb mg) (DT : Def P w K mg base "_law_take" 1 ["draws", "bound"] spTake) : FnOk P w K mg base CX0 2 f fd ["draws"] spNamed := by
  refine F.ok scNamed (fun vs H Q E h => ?_) (fun cdv A outer s H vs Q E hr h => ?_)
  · obtain ⟨d, p0, rfl, _⟩ := h
    rfl
  obtain ⟨d, p0, rfl, hD, q⟩ := h
  have nd := scNamed.nd
  refine ⟨_, (pss_cons (ps_set (i := 1) nd rfl (Or.inr rfl) pe_str)
    (pss_cons (ps_set (i := 2) nd rfl (Or.inl rfl) (pe_lst pa_nil))
    (pss_cons (ps_for PassesOwn.never rfl (pi_range1 rfl G.range (pa_cons pe_int pa_nil)) (pg_name (i := 3) nd rfl (Or.inl rfl)) (pss_cons (ps_set (i := 4) nd rfl (Or.inl rfl) (pe_ix ix_list (pe_lst (pa_cons pe_int (pa_cons pe_int (pa_cons pe_int (pa_cons pe_int (pa_cons pe_int pa_nil)))))) (pe_c DT (hr) (pa_cons (pv 0) (pa_cons pe_int pa_nil))) (fun _ _ => rfl)))
    (pss_cons (ps_set (i := 5) nd rfl (Or.inl rfl) (pe_join pe_str (pe_lc (own := [("n", 6)]) (g := gName 6) (te := tOp rIxS (tOp (fun x y H Q => ∃ i j, x = V.str i ∧ y = V.str j ∧ i.length + j.length ≤ sizeLine ∧ Q (V.str (i ++ j)) H) (tVar 1) (tC (.str "0123456789"))) (tCall spTake [] E0 (tCons (tVar 0) (tCons (tC (.int 36)) tNil))))  rfl nd (pi_range1 rfl G.range (pa_cons (pv 4) pa_nil)) (blkOk_by (own := [("n", 6)]) (N := ["draws", "small", "names", "k", "size", "rest", "n"]) (sc := defScope sNamed) (by decide +kernel)) (fun _ _ _ _ _ => (pg_name (i := 6) nd rfl (Or.inl rfl))) (fun _ _ _ _ _ => pts_nil) (fun _ _ _ _ _ => (pe_ix ix_str (pe_op op_add_str (pv 1) pe_str) (pe_c DT (hr) (pa_cons (pv 0) (pa_cons pe_int pa_nil))) (fun _ _ => rfl))))))
    (pss_one (ps_expr (pe_bm PySem.F.plainAttrs_list PySem.F.slot_list_append PySem.F.type_list_append mt_append (pv 2) (pa_cons (pe_op op_add_str (pe_op op_add_str (pe_ix ix_str (pv 1) (pe_c DT (hr) (pa_cons (pv 0) (pa_cons pe_int pa_nil))) (fun _ _ => rfl)) (pv 5)) (pe_ix ix_str pe_str (pv 3) (fun _ _ => rfl))) pa_nil)))))))
    (pss_one (ps_ret (pv 2)))))), ?_⟩
  refine ⟨Nat.zero_le _, fun l hl => ?_⟩
  have e0 : ExtL H (upd H l (.lst [])) := Ext.new hl _
  have hsz : ∀ n : Nat, n ≤ 1000 → n ≤ sizeLine := fun n hn => Nat.le_of_lt (small1000 hn)
  have lS : lettersS.cps.toList.length = 26 := by decide +kernel
  have lC : (lettersS ++ (Str.ofString "0123456789")).cps.toList = signsS.cps.toList := by decide +kernel
  have lD : signsS.cps.toList.length = 36 := by decide +kernel
  have tail : ∀ j : Fin 14, atI (Str.ofString "abcdefghijklmn").cps.toList (0 + (j.val : Int)) = some (97 + j.val) := by decide +kernel
  refine ⟨14, rfl, by decide, by decide, ?_⟩
  refine for_range (lo := 0) (n := 14) (fun i σ H' => ∃ (o3 o4 o5 : Option V) (xs : List Str), σ = [some (.ref d), some (.str lettersS), some (.ref l), o3, o4, o5, none] ∧ ExtL H H' ∧ Draw H' d p0 ∧ H' l = some (.lst (xs.map V.str)) ∧ xs.length = i ∧ ∀ j x, xs[j]? = some x → GoodName j x)
    ⟨none, none, none, [], rfl, e0, hD.new hl, upd_same, rfl, fun j x hx => by simp at hx⟩ (fun i σ H' hi ⟨o3, o4, o5, xs, eσ, e1, hD1, hl1, hlen, hxs⟩ => ?_) fun σ H' ⟨o3, o4, o5, xs, eσ, e1, hD1, hl1, hlen, hxs⟩ => ?_
  · subst eσ
    refine ⟨hsz 5 (by decide), fun p hp => ?_⟩
    refine ⟨_, rfl, d, p0, 5, rfl, hD1.new hp, by decide, fun H2 i5 e2 hD2 h50 h51 => ?_⟩
    have hp2 : H2 p = some (.lst [.int 0, .int 0, .int 1, .int 2, .int 9]) := e2.obj _ _ rfl upd_same
    obtain ⟨x, hx, hmem⟩ := atI_mem (xs := [V.int 0, .int 0, .int 1, .int 2, .int 9]) h50 (by simpa using h51)
    have hxi : ∃ e : Nat, x = .int (e : Int) ∧ e ≤ 9 ∧ e ≠ 5 := by
      simp at hmem
      rcases hmem with z | z | z | z
      · exact ⟨0, z, by decide⟩
      · exact ⟨1, z, by decide⟩
      · exact ⟨2, z, by decide⟩
      · exact ⟨9, z, by decide⟩
    obtain ⟨sz, rfl, hz9, hz5⟩ := hxi
    have e02 : ExtL H' H2 := (Ext.new hp _).trans e2
    refine ⟨p, _, i5, .int sz, rfl, rfl, SqL.of hp2, hx, ?_⟩
    -- rest
    refine ⟨⟨_, rfl⟩, _, rfl, (sz : Int), rfl, by omega, by omega, fun D hD0 => ?_⟩
    have zt : ((sz : Int)).toNat = sz := Int.toNat_natCast sz
    rw [zt]
    refine lc_range (lo := 0) (n := sz) (fun j H3 => ExtL H2 H3 ∧ Draw H3 d p0 ∧ ∃ cs : List Nat, H3 D = some (.lst ((cs.map fun c => (⟨#[c]⟩ : Str)).map V.str)) ∧ cs.length = j ∧ ∀ c ∈ cs, c ∈ signsS.cps.toList) ⟨Ext.new hD0 _, hD2.new hD0, [], upd_same, rfl, fun c hc => by cases hc⟩ (fun j H3 hj ⟨e3, hD3, cs, hcs, hcl, hcm⟩ => ?_) fun H3 ⟨e3, hD3, cs, hcs, hcl, hcm⟩ => ?_
    · refine ⟨rfl, _, rfl, lettersS, Str.ofString "0123456789", rfl, rfl, (by rw [str_len, str_len, lS]; exact hsz _ (by decide +kernel)), _, rfl, d, p0, 36, rfl, hD3, by decide, fun H4 v e4 hD4 hv0 hv1 => ?_⟩
      obtain ⟨c, hc, hcm2⟩ := atI_mem (xs := signsS.cps.toList) hv0 (by rw [lD]; exact hv1)
      have hcs4 : H4 D = some (.lst ((cs.map fun c => (⟨#[c]⟩ : Str)).map V.str)) := e4.obj _ _ rfl hcs
      refine ⟨_, v, c, rfl, rfl, (by rw [str_len, lC, lD]; exact hsz _ (by decide)), (by rw [lC]; exact hc), _, hcs4, ?_, (e3.trans e4).upd_new hD0, hD4.upd hD2 hD0, cs ++ [c], ?_, ?_, fun y hy => ?_⟩
      · rw [List.length_map, List.length_map]
        exact small1000 (by omega)
      · rw [upd_same, List.map_append, List.map_append]
        rfl
      · rw [List.length_append, hcl]
        rfl
      · rcases List.mem_append.mp hy with z | z
        · exact hcm y z
        · rw [List.mem_singleton.mp z]; exact hcm2
    refine ⟨_, D, _, rfl, rfl, .inl (SqL.of hcs), ?_, ?_⟩
    · have : ∀ l : List Nat, ((l.map fun c => (⟨#[c]⟩ : Str)).map (·.length)).sum = l.length := by
        intro l
        induction l with
        | nil => rfl
        | cons c r ih =>
          rw [List.map_cons, List.map_cons, List.sum_cons, ih, List.length_cons]
          show 1 + r.length = _
          omega
      have z0 : (Str.ofString "").length = 0 := by decide +kernel
      rw [this, z0]
      omega
    -- the name
    refine ⟨_, rfl, .inl ⟨rfl, _, SqL.of (e3.obj _ _ rfl (e02.obj _ _ rfl hl1))⟩, _, rfl, _, rfl, d, p0, 26, rfl, hD3, by decide, fun H4 v e4 hD4 hv0 hv1 => ?_⟩
    obtain ⟨c0, hc0, hm0⟩ := atI_mem (xs := lettersS.cps.toList) hv0 (by rw [lS]; exact hv1)
    have ej := join_signs cs
    have lj : (Txt.join "" (cs.map fun c => ⟨#[c]⟩)).length = cs.length := by rw [str_len, ej]
    have e14 : ExtL H' H4 := (e02.trans e3).trans e4
    have hl4 : H4 l = some (.lst (xs.map V.str)) := e14.obj _ _ rfl hl1
    refine ⟨lettersS, v, c0, rfl, rfl, (by rw [str_len, lS]; exact hsz _ (by decide)), hc0, _, rfl, ⟨#[c0]⟩, _, rfl, rfl, ?_, _, rfl, _, _, 97 + i, rfl, rfl, ?_, tail ⟨i, hi⟩, _, _, rfl, rfl, ?_, l, _, _, rfl, rfl, hl4, ?_, ?_⟩
    · rw [lj]
      exact hsz _ (by show 1 + cs.length ≤ 1000; omega)
    · have l14 : (Str.ofString "abcdefghijklmn").length = 14 := by decide +kernel
      rw [l14]
      exact hsz _ (by decide)
    · rw [str_len, cps_app, List.length_append, ej]
      exact hsz _ (by show (1 + cs.length) + 1 ≤ 1000; omega)
    · rw [List.length_map]
      exact small1000 (by omega)
    have gn : GoodName i ((⟨#[c0]⟩ ++ Txt.join "" (cs.map fun c => ⟨#[c]⟩)) ++ ⟨#[97 + i]⟩) := by
      refine ⟨c0, cs, ?_, hm0, hcm, by omega, by omega⟩
      rw [cps_app, cps_app, ej]
      rfl
    refine ⟨_, _, _, xs ++ [_], rfl, (e1.trans e14).upd_new hl, hD4.upd hD hl, by rw [upd_same, List.map_append]; rfl, by rw [List.length_append, hlen]; rfl, fun j x hx => ?_⟩
    rcases Nat.lt_or_ge j xs.length with h | h
    · rw [List.getElem?_append_left h] at hx
      exact hxs j x hx
    · rw [List.getElem?_append_right h] at hx
      have hj : j - xs.length = 0 := by
        have := (List.getElem?_eq_some_iff.mp hx).1
        simp at this
        omega
      rw [hj] at hx
      have ex : _ = x := Option.some.inj hx
      rw [← ex, show j = i by omega]
      exact gn
  · subst eσ
    exact ⟨_, rfl, q _ l xs e1 hD1 hl hl1 hlen hxs⟩
end
end Mint


namespace Mint
open PySem PySem.Spec PyProof.Rows L2 GxR Gx RZ

/-! ### _law_book -/
theorem cut_upto (xs : List V) (k : Nat) : cutV xs none (some (k : Int)) = xs.take k := by
  unfold cutV
  rw [HT.sIx_none, HT.sIx_nat, List.drop_zero, Nat.sub_zero]
  rcases Nat.le_total k xs.length with h | h
  · rw [Nat.min_eq_left h]
  · rw [Nat.min_eq_right h, List.take_of_length_le (Nat.le_refl _), List.take_of_length_le h]
abbrev intsD (es : List Int) : PyData := .tuple (es.map PyData.int)
structure Mv where
  name : Str
  take : List Int
  low : List Int
  high : List Int
def moveD (m : Mv) : PyData := .tuple [.str m.name, intsD m.take, intsD m.low, intsD m.high]
def Small (n : Nat) (top : Int) (es : List Int) : Prop := es.length = n ∧ ∀ e ∈ es, 0 ≤ e ∧ e ≤ top
structure GoodMv (n j : Nat) (m : Mv) : Prop where
  name : GoodName (6 + j) m.name
  take : Small n 1000 m.take
  low : Small n 1000 m.low
  high : Small n 1000 m.high
  le : (List.zipWith (fun a b => decide (a ≤ b)) m.low m.high).all id = true
structure GoodBk (kn : List Str) (mv : List Mv) : Prop where
  one : 1 ≤ kn.length
  six : kn.length ≤ 6
  eight : mv.length ≤ 8
  kinds : ∀ i x, kn[i]? = some x → GoodName i x
  moves : ∀ j m, mv[j]? = some m → GoodMv kn.length j m
abbrev bkD (kn : List Str) (mv : List Mv) : PyData := bookD (kn.map PyData.str) (mv.map moveD)
theorem dp_ints {K : PySem.W.Frag} {H : Hp} : ∀ es : List Int, DpAll K H (es.map V.int) (es.map PyData.int)
  | [] => .nil
  | e :: r => .cons (.int e) (dp_ints r)
theorem dp_strs {K : PySem.W.Frag} {H : Hp} : ∀ es : List Str, DpAll K H (es.map V.str) (es.map PyData.str)
  | [] => .nil
  | e :: r => .cons (.str e) (dp_strs r)
theorem dp_app {K : PySem.W.Frag} {H : Hp} : ∀ {xs ys : List V} {ds es : List PyData}, DpAll K H xs ds → DpAll K H ys es → DpAll K H (xs ++ ys) (ds ++ es)
  | _, _, _, _, .nil, h => h
  | _, _, _, _, .cons a t, h => .cons a (dp_app t h)
mutual
def noLst : PyData → Bool
  | .list _ => false
  | .tuple ds => noLsts ds
  | _ => true
def noLsts : List PyData → Bool
  | [] => true
  | d :: r => noLst d && noLsts r
end
section
variable {K : PySem.W.Frag} {H : Hp} {l : Addr} {xs : List V} {o : HO}
theorem sqT_upd {a : Addr} {ys : List V} (hl : H l = some (.lst xs)) (h : SqT K H a ys) : SqT K (upd H l o) a ys := by
  rcases h with (h | ⟨ob, h⟩) | h
  · exact .inl (.inl ((upd_ne (ne_of h hl fun z => by cases z)).trans h))
  · exact .inl (.inr ⟨ob, (upd_ne (ne_of h hl fun z => by cases z)).trans h⟩)
  · exact .inr h
mutual
theorem dp_upd (hl : H l = some (.lst xs)) : ∀ {d : PyData} {v : V}, noLst d = true → Dp K H v d → Dp K (upd H l o) v d
  | _, _, _, .non => .non
  | _, _, _, .bl b => .bl b
  | _, _, _, .int i => .int i
  | _, _, _, .str x => .str x
  | _, _, n, .lst h t => by cases n
  | _, _, n, .tup h t => .tup (sqT_upd hl h) (dps_upd hl n t)
theorem dps_upd (hl : H l = some (.lst xs)) : ∀ {ds : List PyData} {vs : List V}, noLsts ds = true → DpAll K H vs ds → DpAll K (upd H l o) vs ds
  | _, _, _, .nil => .nil
  | _, _, n, .cons h t => by
    have n' : noLst _ = true ∧ noLsts _ = true := Bool.and_eq_true_iff.mp n
    exact .cons (dp_upd hl n'.1 h) (dps_upd hl n'.2 t)
end
end
theorem noLsts_ints : ∀ es : List Int, noLsts (es.map PyData.int) = true
  | [] => rfl
  | _ :: r => noLsts_ints r
theorem noLsts_strs : ∀ es : List Str, noLsts (es.map PyData.str) = true
  | [] => rfl
  | _ :: r => noLsts_strs r
theorem noLst_move (m : Mv) : noLst (moveD m) = true := by
  show (noLst (.str m.name) && (noLst (intsD m.take) && (noLst (intsD m.low) && (noLst (intsD m.high) && true)))) = true
  have h : ∀ es, noLst (intsD es) = true := noLsts_ints
  rw [h, h, h]
  rfl
theorem noLsts_moves : ∀ mv : List Mv, noLsts (mv.map moveD) = true
  | [] => rfl
  | m :: r => by
    show (noLst (moveD m) && noLsts (r.map moveD)) = true
    rw [noLst_move, noLsts_moves r]
    rfl
theorem zip_self (es : List Int) : (List.zipWith (fun a b => decide (a ≤ b)) es es).all id = true := by
  induction es with
  | nil => rfl
  | cons a r ih => simp [ih]
theorem zip_le : ∀ (xs ys : List Int), (∀ (u : Nat) (a b : Int), xs[u]? = some a → ys[u]? = some b → a ≤ b) → (List.zipWith (fun a b => decide (a ≤ b)) xs ys).all id = true
  | [], _, _ => by simp
  | _ :: _, [], _ => by simp
  | x :: xs, y :: ys, h => by
    rw [List.zipWith_cons_cons, List.all_cons, zip_le xs ys fun u a b ha hb => h (u + 1) a b (by simpa using ha) (by simpa using hb)]
    simp only [id_eq, Bool.and_true, decide_eq_true_eq]
    exact h 0 x y rfl rfl
def spBookL (K : PySem.W.Frag) : Sp := fun vs H Q _ => ∃ (d p0 : Addr) (m : Int), vs = [.ref d, .int m] ∧ Draw H d p0 ∧ 0 ≤ m ∧ m ≤ 1000 ∧
  ∀ (H' : Hp) (b : V) (kn : List Str) (mv : List Mv), ExtL H H' → Draw H' d p0 → Dp K H' b (bkD kn mv) → GoodBk kn mv → Q b H'
abbrev sBookL : Stmt := top 54
theorem scBookL : FnScope ["draws", "most", "names", "n", "moves", "k", "take", "high", "low", "entry"] ["draws", "most"] (defScope sBookL) := ⟨rfl, rfl, rfl, by decide +kernel, rfl, by decide +kernel, by decide +kernel⟩
section
variable {P : Program} {w : World} {K : PySem.W.Frag} {mg : Str → Option Value} {base : Heap} {f T : Addr} {fd : FuncData}
theorem ok_bookL (F : Fun K "_law_book" "_law_book" sBookL f fd) (G : Glb mg) (DT : Def P w K mg base "_law_take" 1 ["draws", "bound"] spTake) (DN : Def P w K mg base "_law_named" 2 ["draws"] spNamed) (DS : Def P w K mg base "_law_stock" 2 ["draws", "n", "most"] spStockL) :
    FnOk P w K mg base CX0 3 f fd ["draws", "most"] (spBookL K) := by
  refine F.ok scBookL (fun vs H Q E h => ?_) (fun cdv A outer s H vs Q E hr h => ?_)
  · obtain ⟨d, p0, m, rfl, _⟩ := h
    rfl
  obtain ⟨d, p0, m, rfl, hD, hm0, hm1, q⟩ := h
  have nd := scBookL.nd
  refine ⟨_, (pss_cons (ps_set (i := 2) nd rfl (Or.inl rfl) (pe_c DN (hr) (pa_cons (pv 0) pa_nil)))
    (pss_cons (ps_set (i := 3) nd rfl (Or.inl rfl) (pe_op op_add pe_int (pe_c DT (hr.mono (by decide)) (pa_cons (pv 0) (pa_cons pe_int pa_nil)))))
    (pss_cons (ps_set (i := 4) nd rfl (Or.inl rfl) (pe_lst pa_nil))
    (pss_cons (ps_for PassesOwn.never rfl (pi_range1 rfl G.range (pa_cons (pe_c DT (hr.mono (by decide)) (pa_cons (pv 0) (pa_cons pe_int pa_nil))) pa_nil)) (pg_name (i := 5) nd rfl (Or.inl rfl)) (pss_cons (ps_set (i := 6) nd rfl (Or.inl rfl) (pe_c DS (hr) (pa_cons (pv 0) (pa_cons (pv 3) (pa_cons (pv 1) pa_nil)))))
    (pss_cons (ps_set (i := 7) nd rfl (Or.inl rfl) (pe_c DS (hr) (pa_cons (pv 0) (pa_cons (pv 3) (pa_cons (pv 1) pa_nil)))))
    (pss_cons (ps_set (i := 8) nd rfl (Or.inl rfl) (pv 7))
    (pss_cons (ps_if (pt_cmpR op_eq (pe_c DT (hr.mono (by decide)) (pa_cons (pv 0) (pa_cons pe_int pa_nil))) pe_int (nomark _)) (pss_one (ps_set (i := 8) nd rfl (Or.inl rfl) (pe_callTy call_tuple_of rfl G.tuple (by decide +kernel) (pa_cons (pe_lc (own := [("entry", 9)]) (g := gName 9) (te := tCall spTake [] E0 (tCons (tVar 0) (tCons (tOp (rI0 fun i j => .int (i + j)) (tVar 9) (tC (.int 1))) tNil)))  rfl nd (pi_tup (pv 7)) (blkOk_by (own := [("entry", 9)]) (N := ["draws", "most", "names", "n", "moves", "k", "take", "high", "low", "entry"]) (sc := defScope sBookL) (by decide +kernel)) (fun _ _ _ _ _ => (pg_name (i := 9) nd rfl (Or.inl rfl))) (fun _ _ _ _ _ => pts_nil) (fun _ _ _ _ _ => (pe_c DT (hr.mono (by decide)) (pa_cons (pv 0) (pa_cons (pe_op op_add (pv 9) pe_int) pa_nil))))) pa_nil)))) pss_nil)
    (pss_one (ps_expr (pe_bm PySem.F.plainAttrs_list PySem.F.slot_list_append PySem.F.type_list_append mt_append (pv 4) (pa_cons (pe_tup (pa_cons (pe_ix ix_list (pv 2) (pe_op op_add pe_int (pv 5)) (fun _ _ => rfl)) (pa_cons (pv 6) (pa_cons (pv 8) (pa_cons (pv 7) pa_nil))))) pa_nil)))))))))
    (pss_one (ps_ret (pe_tup (pa_cons (pe_callTy call_tuple_of rfl G.tuple (by decide +kernel) (pa_cons (pe_slice sl_list (pv 2) po_none (po_some (pv 3))) pa_nil)) (pa_cons (pe_callTy call_tuple_of rfl G.tuple (by decide +kernel) (pa_cons (pv 4) pa_nil)) pa_nil))))))))), ?_⟩
  refine ⟨_, rfl, d, p0, rfl, hD, fun H1 pn xs e1 hD1 hpn hnm hx14 hxs => ?_⟩
  refine ⟨_, rfl, d, p0, 6, rfl, hD1, by decide, fun H2 v6 e2 hD2 hv0 hv1 => ?_⟩
  refine ⟨1, v6, rfl, rfl, ?_⟩
  obtain ⟨n, hn⟩ : ∃ n : Nat, 1 + v6 = (n : Int) := ⟨(1 + v6).toNat, by omega⟩
  show gName 3 (V.int (1 + v6)) _ _ _
  rw [hn]
  have hn1 : 1 ≤ n := by omega
  have hn6 : n ≤ 6 := by omega
  refine ⟨Nat.zero_le _, fun l hl => ?_⟩
  have e02 : ExtL H H2 := e1.trans e2
  have hlH : H l = none := e02.non l hl
  have e03 : ExtL H (upd H2 l (.lst [])) := e02.trans (Ext.new hl _)
  have hnm2 : H2 pn = some (.lst (xs.map V.str)) := e2.obj _ _ rfl hnm
  refine ⟨_, rfl, d, p0, 9, rfl, hD2.new hl, by decide, fun H3 v9 e3 hD3 hw0 hw1 => ⟨v9, rfl, by omega, by omega, ?_⟩⟩
  obtain ⟨c9, hc9⟩ : ∃ c : Nat, v9 = (c : Int) := ⟨v9.toNat, by omega⟩
  have hc8 : c9 ≤ 8 := by omega
  subst hc9
  rw [Int.toNat_natCast]
  refine for_range (lo := 0) (n := c9) (fun i σ H' => ∃ (o5 o6 o7 o8 : Option V) (rs : List V) (mv : List Mv), σ = [some (.ref d), some (.int m), some (.ref pn), some (.int n), some (.ref l), o5, o6, o7, o8, none] ∧ ExtL H2 H' ∧ Draw H' d p0 ∧ H' l = some (.lst rs) ∧ DpAll K H' rs (mv.map moveD) ∧ mv.length = i ∧ (∀ j m, mv[j]? = some m → GoodMv n j m))
    ⟨none, none, none, none, [], [], rfl, (Ext.new hl _).trans e3, hD3, e3.obj _ _ rfl upd_same, .nil, rfl, fun j m hj => by simp at hj⟩ (fun i σ H' hi ⟨o5, o6, o7, o8, rs, mv, eσ, e4, hD4, hl4, hdp, hlen, hmv⟩ => ?_) fun σ H' ⟨o5, o6, o7, o8, rs, mv, eσ, e4, hD4, hl4, hdp, hlen, hmv⟩ => ?_
  · subst eσ
    have hll : H2 l = none := hl
    refine ⟨_, rfl, _, rfl, _, rfl, d, p0, n, m, rfl, hD4, by omega, hm0, fun H5 pt ts e5 hD5 hpt ht1 ht2 ht3 => ?_⟩
    refine ⟨_, rfl, _, rfl, _, rfl, d, p0, n, m, rfl, hD5, by omega, hm0, fun H6 ph hs e6 hD6 hph hh1 hh2 hh3 => ?_⟩
    refine ⟨_, rfl, ?_⟩
    refine ⟨_, rfl, d, p0, 3, rfl, hD6, by decide, fun H7 v3 e7 hD7 hv30 hv31 => ⟨rfl, _, rfl, ?_⟩⟩
    have e47 : ExtL H' H7 := (e5.trans e6).trans e7
    have eAll : ExtL H H7 := (e02.trans e4).trans e47
    have tk7 : H7 pt = some (.tup (ts.map V.int)) := (e6.trans e7).obj _ _ rfl ht1
    have hg7 : H7 ph = some (.tup (hs.map V.int)) := e7.obj _ _ rfl hh1
    have sT : Small n 1000 ts := ⟨ht2, fun e he => ⟨(ht3 e he).1, Int.le_trans (ht3 e he).2 hm1⟩⟩
    have sH : Small n 1000 hs := ⟨hh2, fun e he => ⟨(hh3 e he).1, Int.le_trans (hh3 e he).2 hm1⟩⟩
    -- what the turn ends with, once low is there
    have fin : ∀ (H8 : Hp) (pl : Addr) (ls : List Int), ExtL H7 H8 → Draw H8 d p0 → H8 pl = some (.tup (ls.map V.int)) → Small n 1000 ls → (List.zipWith (fun a b => decide (a ≤ b)) ls hs).all id = true → ∀ (R : Hp → Prop),
        (∀ H9 r, ExtL H7 H9 → Draw H9 d p0 → H9 l = some (.lst rs) → Dp K H9 (.ref r) (moveD ⟨(xs.getD (6 + i) Str.empty), ts, ls, hs⟩) → R (upd H9 l (.lst (rs ++ [.ref r])))) → ∃ y, atI (xs.map V.str) (6 + (0 + (i : Int))) = some y ∧ ∀ r, H8 r = none → R (upd (upd H8 r (.tup [y, .ref pt, .ref pl, .ref ph])) l (.lst (rs ++ [.ref r]))) := by
      intro H8 pl ls e8 hD8 hpl sL hle R hR
      have h14 : 6 + i < xs.length := by omega
      have hx : xs[6 + i]? = some (xs.getD (6 + i) Str.empty) := by rw [List.getD_eq_getElem?_getD, List.getElem?_eq_getElem h14]; rfl
      refine ⟨.str (xs.getD (6 + i) Str.empty), ?_, fun r hr => ?_⟩
      · have := atI_nat (xs := xs.map V.str) (j := 6 + i) (v := .str (xs.getD (6 + i) Str.empty)) (by rw [List.getElem?_map, hx]; rfl)
        rw [show (6 + (0 + (i : Int)) : Int) = ((6 + i : Nat) : Int) by omega]
        exact this
      · have e9 : ExtL H8 (upd H8 r (.tup [.str (xs.getD (6 + i) Str.empty), .ref pt, .ref pl, .ref ph])) := Ext.new hr _
        have e79 := e8.trans e9
        refine hR _ r e79 (hD8.new hr) ((e47.trans e79).obj _ _ rfl hl4) ?_
        exact .tup (SqT.of upd_same) (.cons (.str _) (.cons (.tup (SqT.of (e79.obj _ _ rfl tk7)) (dp_ints ts)) (.cons (.tup (SqT.of (e9.obj _ _ rfl hpl)) (dp_ints ls)) (.cons (.tup (SqT.of (e79.obj _ _ rfl hg7)) (dp_ints hs)) .nil))))
    have h14 : 6 + i < xs.length := by omega
    have hx : xs[6 + i]? = some (xs.getD (6 + i) Str.empty) := by rw [List.getD_eq_getElem?_getD, List.getElem?_eq_getElem h14]; rfl
    have hl7 : H7 l = some (.lst rs) := e47.obj _ _ rfl hl4
    have hn7 : H7 pn = some (.lst (xs.map V.str)) := (e4.trans e47).obj _ _ rfl hnm2
    -- the new state
    have next : ∀ (ls : List Int), Small n 1000 ls → (List.zipWith (fun a b => decide (a ≤ b)) ls hs).all id = true → ∀ (o8 : Option V) (H9 : Hp) (r : Addr), ExtL H7 H9 → Draw H9 d p0 → H9 l = some (.lst rs) → Dp K H9 (.ref r) (moveD ⟨(xs.getD (6 + i) Str.empty), ts, ls, hs⟩) →
        (fun Hx : Hp => ∃ (o5 o6 o7 o8' : Option V) (rs' : List V) (mv' : List Mv), ([some (V.ref d), some (.int m), some (.ref pn), some (.int n), some (.ref l), some (.int (0 + (i : Int))), some (.ref pt), some (.ref ph), o8, none] : L2.St) = [some (.ref d), some (.int m), some (.ref pn), some (.int n), some (.ref l), o5, o6, o7, o8', none] ∧ ExtL H2 Hx ∧ Draw Hx d p0 ∧ Hx l = some (.lst rs') ∧ DpAll K Hx rs' (mv'.map moveD) ∧ mv'.length = i + 1 ∧ (∀ j m, mv'[j]? = some m → GoodMv n j m)) (upd H9 l (.lst (rs ++ [.ref r]))) := by
      intro ls sL hle o8 H9 r e9 hD9 hl9 hd9
      refine ⟨_, _, _, _, rs ++ [.ref r], mv ++ [⟨(xs.getD (6 + i) Str.empty), ts, ls, hs⟩], rfl, ((e4.trans e47).trans e9).upd_new hl, hD9.upd hD hlH, upd_same, ?_, by rw [List.length_append, hlen]; rfl, fun j m hj => ?_⟩
      · rw [List.map_append]
        exact dp_app (dps_upd hl9 (noLsts_moves mv) ((e47.trans e9).dps hdp)) (.cons (dp_upd hl9 (noLst_move _) hd9) .nil)
      · rcases Nat.lt_or_ge j mv.length with h | h
        · rw [List.getElem?_append_left h] at hj
          exact hmv j m hj
        · rw [List.getElem?_append_right h] at hj
          have hz : j - mv.length = 0 := by
            have := (List.getElem?_eq_some_iff.mp hj).1
            simp at this
            omega
          rw [hz] at hj
          have em : _ = m := Option.some.inj hj
          rw [← em, show j = i by omega]
          exact ⟨hxs _ _ hx, sT, sL, sH, hle⟩
    refine ite2 (fun c1 => ?_) (fun c1 => ?_)
    · refine ⟨_, rfl, ph, rfl, ⟨_, SqT.of hg7⟩, fun D hD0 => ?_⟩
      refine lc_tup (xs := hs.map V.int) (fun j H3 => ExtL H7 H3 ∧ Draw H3 d p0 ∧ ∃ ls : List Int, H3 D = some (.lst (ls.map V.int)) ∧ ls.length = j ∧ ∀ (u : Nat) (a b : Int), ls[u]? = some a → hs[u]? = some b → 0 ≤ a ∧ a ≤ b) ⟨Ext.new hD0 _, hD7.new hD0, [], upd_same, rfl, fun u a b hu => by simp at hu⟩ (fun j H3 _ p => p.1.sqT (SqT.of hg7)) (fun j x H3 hx ⟨e8, hD8, ls, hls, hll8, hle8⟩ => ?_) fun H3 ⟨e8, hD8, ls, hls, hll8, hle8⟩ => ?_
      · rw [List.getElem?_map, Option.map_eq_some_iff] at hx
        obtain ⟨b, hb, rfl⟩ := hx
        have hbm : b ∈ hs := List.mem_of_getElem? hb
        have hb0 := (hh3 b hbm).1
        refine ⟨rfl, _, rfl, _, rfl, b, 1, rfl, rfl, d, p0, b + 1, rfl, hD8, by omega, fun H4 v e9 hD9 hv0 hv1 => ?_⟩
        have hls9 : H4 D = some (.lst (ls.map V.int)) := e9.obj _ _ rfl hls
        refine ⟨_, hls9, ?_, (e8.trans e9).upd_new hD0, hD9.upd hD7 hD0, ls ++ [v], ?_, ?_, fun u a b' ha hb' => ?_⟩
        · rw [List.length_map]
          have : j < hs.length := (List.getElem?_eq_some_iff.mp hb).1
          exact small1000 (by omega)
        · rw [upd_same, List.map_append]
          rfl
        · rw [List.length_append, hll8]
          rfl
        · rcases Nat.lt_or_ge u ls.length with h | h
          · rw [List.getElem?_append_left h] at ha
            exact hle8 u a b' ha hb'
          · rw [List.getElem?_append_right h] at ha
            have hz : u - ls.length = 0 := by
              have := (List.getElem?_eq_some_iff.mp ha).1
              simp at this
              omega
            rw [hz] at ha
            have em : v = a := Option.some.inj ha
            rw [show u = j by omega, hb] at hb'
            have eb : b = b' := Option.some.inj hb'
            omega
      · rw [List.length_map] at hll8
        have sL : Small n 1000 ls := by
          refine ⟨by rw [hll8, hh2], fun a ha => ?_⟩
          obtain ⟨u, hu, ea⟩ := List.getElem_of_mem ha
          have hu2 : u < hs.length := by omega
          have := hle8 u a hs[u] (by rw [List.getElem?_eq_getElem hu, ea]) (List.getElem?_eq_getElem hu2)
          have h3 := sH.2 hs[u] (List.getElem_mem hu2)
          exact ⟨this.1, Int.le_trans this.2 h3.2⟩
        have hle : (List.zipWith (fun a b => decide (a ≤ b)) ls hs).all id = true := zip_le ls hs fun u a b ha hb => (hle8 u a b ha hb).2
        refine ⟨D, _, rfl, .inl ⟨SqL.of hls, fun pl hpl => ?_⟩⟩
        have e8' : ExtL H7 (upd H3 pl (.tup (ls.map V.int))) := e8.trans (Ext.new hpl _)
        obtain ⟨y, hy, hR⟩ := fin (upd H3 pl (.tup (ls.map V.int))) pl ls e8' (hD8.new hpl) upd_same sL hle (fun Hx => ∃ (o5 o6 o7 o8' : Option V) (rs' : List V) (mv' : List Mv), ([some (V.ref d), some (.int m), some (.ref pn), some (.int n), some (.ref l), some (.int (0 + (i : Int))), some (.ref pt), some (.ref ph), some (.ref pl), none] : L2.St) = [some (.ref d), some (.int m), some (.ref pn), some (.int n), some (.ref l), o5, o6, o7, o8', none] ∧ ExtL H2 Hx ∧ Draw Hx d p0 ∧ Hx l = some (.lst rs') ∧ DpAll K Hx rs' (mv'.map moveD) ∧ mv'.length = i + 1 ∧ (∀ j m, mv'[j]? = some m → GoodMv n j m)) (next ls sL hle (some (.ref pl)))
        have hl8 := e8'.obj _ _ rfl hl7
        have hn8 := e8'.obj _ _ rfl hn7
        refine ⟨_, rfl, .inl ⟨rfl, _, SqL.of hl8⟩, _, rfl, _, rfl, 6, 0 + (i : Int), rfl, rfl, pn, _, _, y, rfl, rfl, SqL.of hn8, hy, _, rfl, _, rfl, _, rfl, (by show 4 ≤ sizeLine; decide), fun r hr => ⟨l, rs, .ref r, rfl, rfl, (Ext.new (dk := true) hr _).obj _ _ rfl hl8, ?_, hR r hr⟩⟩
        rw [dpAll_len hdp, List.length_map]
        exact small1000 (by omega)
    · obtain ⟨y, hy, hR⟩ := fin H7 ph hs (Ext.refl false H7) hD7 hg7 sH (zip_self hs) (fun Hx => ∃ (o5 o6 o7 o8' : Option V) (rs' : List V) (mv' : List Mv), ([some (V.ref d), some (.int m), some (.ref pn), some (.int n), some (.ref l), some (.int (0 + (i : Int))), some (.ref pt), some (.ref ph), some (.ref ph), none] : L2.St) = [some (.ref d), some (.int m), some (.ref pn), some (.int n), some (.ref l), o5, o6, o7, o8', none] ∧ ExtL H2 Hx ∧ Draw Hx d p0 ∧ Hx l = some (.lst rs') ∧ DpAll K Hx rs' (mv'.map moveD) ∧ mv'.length = i + 1 ∧ (∀ j m, mv'[j]? = some m → GoodMv n j m)) (next hs sH (zip_self hs) (some (.ref ph)))
      · have hl8 := hl7; have hn8 := hn7
        refine ⟨_, rfl, .inl ⟨rfl, _, SqL.of hl8⟩, _, rfl, _, rfl, 6, 0 + (i : Int), rfl, rfl, pn, _, _, y, rfl, rfl, SqL.of hn8, hy, _, rfl, _, rfl, _, rfl, (by show 4 ≤ sizeLine; decide), fun r hr => ⟨l, rs, .ref r, rfl, rfl, (Ext.new (dk := true) hr _).obj _ _ rfl hl8, ?_, hR r hr⟩⟩
        rw [dpAll_len hdp, List.length_map]
        exact small1000 (by omega)

  · subst eσ
    have hpn4 : H' pn = some (.lst (xs.map V.str)) := e4.obj _ _ rfl hnm2
    have hl40 := hl4
    refine ⟨_, rfl, _, rfl, n, rfl, pn, _, rfl, SqL.of hpn4, fun p2 hp2 => ⟨p2, _, rfl, .inl ⟨SqL.of upd_same, fun pk hpk => ?_⟩⟩⟩
    have eb : ExtL H' (upd (upd H' p2 (.lst (cutV (xs.map V.str) none (some (n : Int))))) pk (.tup (cutV (xs.map V.str) none (some (n : Int))))) := (Ext.new hp2 _).trans (Ext.new hpk _)
    refine ⟨_, rfl, l, rs, rfl, .inl ⟨SqL.of (eb.obj _ _ rfl hl40), fun pm hpm => ⟨(by show 2 ≤ sizeLine; decide), fun r hr => ?_⟩⟩⟩
    have ec := eb.trans (Ext.new hpm (.tup rs))
    have ed := ec.trans (Ext.new hr (.tup [.ref pk, .ref pm]))
    have hk : (upd (upd H' p2 (.lst (cutV (xs.map V.str) none (some (n : Int))))) pk (.tup (cutV (xs.map V.str) none (some (n : Int))))) pk = some (.tup ((xs.take n).map V.str)) := by
      rw [upd_same, cut_upto, List.map_take]
    have hpk2 := (Ext.new (dk := false) hpm (.tup rs)).obj _ _ rfl hk
    have hpk3 := (Ext.new (dk := false) hr (.tup [.ref pk, .ref pm])).obj _ _ rfl hpk2
    have hpm3 := (Ext.new (dk := false) hr (.tup [.ref pk, .ref pm])).obj _ _ rfl (upd_same (a := pm) (o := .tup rs))
    have gb : GoodBk (xs.take n) mv := by
      have hl : (xs.take n).length = n := by rw [List.length_take]; omega
      refine ⟨by omega, by omega, by omega, fun j x hx => ?_, fun j m hj => ?_⟩
      · have hj : j < n := by
          have := (List.getElem?_eq_some_iff.mp hx).1
          omega
        rw [List.getElem?_take_of_lt hj] at hx
        exact hxs j x hx
      · rw [hl]
        exact hmv j m hj
    have ed' : ExtL H' (upd (upd (upd (upd H' p2 (.lst (cutV (xs.map V.str) none (some (n : Int))))) pk (.tup (cutV (xs.map V.str) none (some (n : Int))))) pm (.tup rs)) r (.tup [.ref pk, .ref pm])) := ed
    exact q _ _ (xs.take n) mv ((e02.trans e4).trans ed') ((((hD4.new hp2).new hpk).new hpm).new hr) (.tup (SqT.of upd_same) (.cons (.tup (SqT.of hpk3) (dp_strs _)) (.cons (.tup (SqT.of hpm3) (ed'.dps hdp)) .nil))) gb
end
end Mint


namespace Fw
open PySem PySem.Spec PyProof.Rows L2 GxR Gx Gy RZ Mint
/-! ### _law_stock -/
@[simp] theorem x_take {K : PySem.W.Frag} {cs : List (Cn K)} {Q : Cn K → List (Cn K) → Prop} : g_take K cs Q ↔ ∃ b : Int, cs = [.x (drawsO K), .d (.int b)] ∧ 0 < b ∧ ∀ v : Int, 0 ≤ v → v < b → Q (.d (.int v)) cs := Iff.rfl
def g__law_stock {K : PySem.W.Frag} : GF K := fun cs Q => ∃ (n : Nat) (m : Int), cs = [.x (drawsO K), .d (.int n), .d (.int m)] ∧ n ≤ 1000 ∧ 0 ≤ m ∧ ∀ es, Small n m es → Q (.d (iD es)) cs
section
variable {P : Program} {w : World} {K : PySem.W.Frag} {mg : Str → Option Value} {base : Heap} {f T : Addr} {fd : FuncData} {Ps : List Addr}
abbrev s_law_stock : Stmt := top 53
theorem sc_law_stock : FnScope ["draws", "n", "most", "entries", "k", "entry"] ["draws", "n", "most"] (defScope s_law_stock) := ⟨rfl, rfl, rfl, by decide +kernel, rfl, by decide +kernel, by decide +kernel⟩
theorem ok__law_stock (F : Fun K "_law_stock" "_law_stock" s_law_stock f fd) (G : Glb mg)  (D__law_take : Def P w K mg base "_law_take" (1) ["draws", "bound"] (spA K Ps (g_take K))) : FnOk P w K mg base CX0 (2) f fd ["draws", "n", "most"] (spA K Ps g__law_stock) := by
  refine ok_fn F sc_law_stock (fun cs Q' h => ?_) (by decide) fun cdv A outer s H E hr => ?_
  · obtain ⟨n, m, rfl, hn, hm, h⟩ := h
    rfl
  have nd := sc_law_stock.nd
  refine ⟨_, ?fs, (pss_cons (ps_set (i := 3) nd rfl (Or.inl rfl) (pe_lst pa_nil))
    (pss_cons (ps_for PassesOwn.never rfl (pi_range1 rfl G.range (pa_cons (pv 1) pa_nil)) (pg_name (i := 4) nd rfl (Or.inl rfl)) (pss_one (ps_expr (pe_bm PySem.F.plainAttrs_list PySem.F.slot_list_append PySem.F.type_list_append mt_append (pv 3) (pa_cons (pe_ix ix_list (pe_lst (pa_cons pe_int (pa_cons pe_int (pa_cons pe_int (pa_cons pe_int (pa_cons (pe_c D__law_take (hr.mono (by decide)) (pa_cons (pv 0) (pa_cons (pe_op op_add (pv 2) pe_int) pa_nil))) (pa_cons (pv 2) pa_nil))))))) (pe_c D__law_take (hr.mono (by decide)) (pa_cons (pv 0) (pa_cons pe_int pa_nil))) (fun _ _ => rfl)) pa_nil)))))
    (pss_one (ps_ret (pe_callTy cr_tuple rfl G.tuple (by decide +kernel) (pa_cons (pe_lc (own := [("entry", 5)]) (g := (gName 5)) (te := (tCB rMin2 (tCons (tVar 2) (tCons (tVar 5) tNil)))) (tt := tYes) rfl nd (pi_list (pv 3)) (blkOk_by (own := [("entry", 5)]) (N := ["draws", "n", "most", "entries", "k", "entry"]) (sc := defScope s_law_stock) (by decide +kernel)) (fun _ _ _ _ _ => (pg_name (i := 5) nd rfl (Or.inl rfl))) (fun _ _ _ _ _ => pts_nil) (fun _ _ _ _ _ => (pe_callB (cr_min2 rfl) rfl G.min (by decide +kernel) (pa_cons (pv 2) (pa_cons (pv 5) pa_nil))))) pa_nil)))))), ?inst, fun cs Q' hg => ?body⟩
  case inst =>
    dsimp only [cxOf, Cx.nox, Cx.wish, List.map]
    infer_instance
  case body =>
    obtain ⟨n, m, rfl, hn, hm, h⟩ := hg
    simp [and_assoc]
    refine ⟨by omega, ?_⟩
    refine forF_range (fun (b : Nat) s => ∃ (es : List Int) (c d : SC K), s = [.io (.x (drawsO K)), .f (.d (.int n)), .f (.d (.int m)), .f (.l (es.map PyData.int)), c, d] ∧ blS c = true ∧ blS d = true ∧ es.length = b ∧ ∀ e ∈ es, 0 ≤ e) (fun _ _ _ => trivial) ⟨[], .e, .e, rfl, rfl, rfl, rfl, fun e h => nomatch h⟩ (fun x s hx' ⟨es, c, d, e, hc, hd, hl, he⟩ N hN => ?_) (fun s ⟨es, c, d, e, hc, hd, hl, he⟩ => ?_)
    · subst e
      simp [and_assoc, can_bl hc]
      refine ⟨by omega, fun v1 h1 h2 v2 h3 h4 => ?_⟩
      have fin : ∀ e : Int, 0 ≤ e → N [.io (.x (drawsO K)), .f (.d (.int n)), .f (.d (.int m)), .f (.l (es.map PyData.int ++ [.int e])), .f (.d (.int x)), d] := fun e h0 =>
        hN _ ⟨es ++ [e], .f (.d (.int x)), d, by simp, rfl, hd, by simp [hl], fun y hy => by
          rcases List.mem_append.mp hy with hy | hy
          · exact he y hy
          · rw [List.mem_singleton.mp hy]; exact h0⟩
      have hlen : es.length < 1000 := by omega
      rcases (by omega : v2 = 0 ∨ v2 = 1 ∨ v2 = 2 ∨ v2 = 3 ∨ v2 = 4 ∨ v2 = 5) with rfl | rfl | rfl | rfl | rfl | rfl
      all_goals simp [hlen]
      all_goals exact fin _ (by omega)
    · subst e
      simp [and_assoc, hd]
      refine compF_map _ (fun e => .int (if e < m then e else m)) es (by simp) (by omega) (fun x hx T hT => ?_) ?_
      · simp [and_assoc]
        exact hT _ (by simp) (by simp)
      · have e1 : es.map (fun e => PyData.int (if e < m then e else m)) = (es.map fun e => if e < m then e else m).map PyData.int := by simp
        rw [e1]
        simp only [cnAt_zero, cn_io, Option.getD_some]
        refine h _ ⟨by rw [List.length_map]; exact hl, fun y hy => ?_⟩
        obtain ⟨z, hz, rfl⟩ := List.mem_map.mp hy
        have := he z hz
        split <;> omega
end
end Fw


namespace Fw
open PySem PySem.Spec PyProof.Rows L2 GxR Gx Gy RZ Mint
/-! ### _law_named -/
def g__law_named {K : PySem.W.Frag} : GF K := fun cs Q => cs = [.x (drawsO K)] ∧ ∀ xs : List Str, xs.length = 14 → (∀ i x, xs[i]? = some x → GoodName i x) → Q (.l (xs.map PyData.str)) cs
section
variable {P : Program} {w : World} {K : PySem.W.Frag} {mg : Str → Option Value} {base : Heap} {f T : Addr} {fd : FuncData} {Ps : List Addr}
abbrev s_law_named : Stmt := top 52
theorem sc_law_named : FnScope ["draws", "small", "names", "k", "size", "rest", "n"] ["draws"] (defScope s_law_named) := ⟨rfl, rfl, rfl, by decide +kernel, rfl, by decide +kernel, by decide +kernel⟩
theorem ok__law_named (F : Fun K "_law_named" "_law_named" s_law_named f fd) (G : Glb mg)  (D__law_take : Def P w K mg base "_law_take" (1) ["draws", "bound"] (spA K Ps (g_take K))) : FnOk P w K mg base CX0 (2) f fd ["draws"] (spA K Ps g__law_named) := by
  refine ok_fn F sc_law_named (fun cs Q' h => ?_) (by decide) fun cdv A outer s H E hr => ?_
  · obtain ⟨rfl, h⟩ := h
    rfl
  have nd := sc_law_named.nd
  refine ⟨_, ?fs, (pss_cons (ps_set (i := 1) nd rfl (Or.inr rfl) pe_str)
    (pss_cons (ps_set (i := 2) nd rfl (Or.inl rfl) (pe_lst pa_nil))
    (pss_cons (ps_for PassesOwn.never rfl (pi_range1 rfl G.range (pa_cons pe_int pa_nil)) (pg_name (i := 3) nd rfl (Or.inl rfl)) (pss_cons (ps_set (i := 4) nd rfl (Or.inl rfl) (pe_ix ix_list (pe_lst (pa_cons pe_int (pa_cons pe_int (pa_cons pe_int (pa_cons pe_int (pa_cons pe_int pa_nil)))))) (pe_c D__law_take (hr.mono (by decide)) (pa_cons (pv 0) (pa_cons pe_int pa_nil))) (fun _ _ => rfl)))
    (pss_cons (ps_set (i := 5) nd rfl (Or.inl rfl) (fe_join pe_str (pe_lc (own := [("n", 6)]) (g := (gName 6)) (te := (tOp rIxS (tOp rCatS (tVar 1) (tC (.str "0123456789"))) (tCall (spA K Ps (g_take K)) [] E0 (tCons (tVar 0) (tCons (tC (.int 36)) tNil))))) (tt := tYes) rfl nd (pi_range1 rfl G.range (pa_cons (pv 4) pa_nil)) (blkOk_by (own := [("n", 6)]) (N := ["draws", "small", "names", "k", "size", "rest", "n"]) (sc := defScope s_law_named) (by decide +kernel)) (fun _ _ _ _ _ => (pg_name (i := 6) nd rfl (Or.inl rfl))) (fun _ _ _ _ _ => pts_nil) (fun _ _ _ _ _ => (pe_ix ix_str (pe_op fo_catS (pv 1) pe_str) (pe_c D__law_take (hr.mono (by decide)) (pa_cons (pv 0) (pa_cons pe_int pa_nil))) (fun _ _ => rfl))))))
    (pss_one (ps_expr (pe_bm PySem.F.plainAttrs_list PySem.F.slot_list_append PySem.F.type_list_append mt_append (pv 2) (pa_cons (pe_op fo_catS (pe_op fo_catS (pe_ix ix_str (pv 1) (pe_c D__law_take (hr.mono (by decide)) (pa_cons (pv 0) (pa_cons pe_int pa_nil))) (fun _ _ => rfl)) (pv 5)) (pe_ix ix_str pe_str (pv 3) (fun _ _ => rfl))) pa_nil)))))))
    (pss_one (ps_ret (pv 2)))))), ?inst, fun cs Q' hg => ?body⟩
  case inst =>
    dsimp only [cxOf, Cx.nox, Cx.wish, List.map]
    infer_instance
  case body =>
    obtain ⟨rfl, h⟩ := hg
    simp [and_assoc]
    refine forF_range (fun (i : Nat) s => ∃ (xs : List Str) (c d e f : SC K), s = [.io (.x (drawsO K)), .f (.d (.str lettersS)), .f (.l (xs.map PyData.str)), c, d, e, f] ∧ blS c = true ∧ blS d = true ∧ blS e = true ∧ blS f = true ∧ xs.length = i ∧ ∀ j x, xs[j]? = some x → GoodName j x) (fun _ _ _ => trivial) ⟨[], .e, .e, .e, .e, rfl, rfl, rfl, rfl, rfl, rfl, fun j x hx => by simp at hx⟩ (fun i s hi ⟨xs, c, d, e, f, es, hc, hd, he, hf, hl, hx⟩ N hN => ?_) (fun s ⟨xs, c, d, e, f, es, hc, hd, he, hf, hl, hx⟩ => ?_)
    · subst es
      simp [and_assoc, can_bl hc, can_bl hd, can_bl he, hf]
      intro v h0 h5
      obtain ⟨sz, e1, e2, e3⟩ : ∃ sz : Nat, atI [PyData.int 0, PyData.int 0, PyData.int 1, PyData.int 2, PyData.int 9] v = some (.int sz) ∧ sz ≤ 9 ∧ sz ≠ 5 := by
        rcases (by omega : v = 0 ∨ v = 1 ∨ v = 2 ∨ v = 3 ∨ v = 4) with rfl | rfl | rfl | rfl | rfl
        · exact ⟨0, by simp, by omega, by omega⟩
        · exact ⟨0, by simp, by omega, by omega⟩
        · exact ⟨1, by simp, by omega, by omega⟩
        · exact ⟨2, by simp, by omega, by omega⟩
        · exact ⟨9, by simp, by omega, by omega⟩
      refine ⟨_, e1, _, ⟨sz, rfl, rfl, by omega, by omega⟩, ?_⟩
      rw [Int.toNat_natCast]
      have lS : lettersS.cps.toList.length = 26 := by decide +kernel
      have lC : (lettersS ++ (Str.ofString "0123456789")).cps.toList = signsS.cps.toList := by decide +kernel
      have lD : signsS.cps.toList.length = 36 := by decide +kernel
      have l10 : (Str.ofString "0123456789").length = 10 := by decide +kernel
      have l26 : lettersS.length = 26 := by rw [str_len, lS]
      have hsz : sizeLine = 100000000 ∨ 1000 ≤ sizeLine := .inr (by decide)
      have hS : 1000 ≤ sizeLine := by decide
      refine compF_range1 (fun (j : Nat) acc s => ∃ cs : List Nat, acc = cs.map (fun c => PyData.str ⟨#[c]⟩) ∧ cs.length = j ∧ (∀ c ∈ cs, c ∈ signsS.cps.toList) ∧ s = [.io (.x (drawsO K)), .f (.d (.str lettersS)), .f (.l (xs.map PyData.str)), .f (.d (.int i)), .f (.d (.int sz)), e, .e]) (by omega) (fun _ _ _ _ => trivial) (fun j acc s ⟨cs, q1, q2, _⟩ => by rw [q1, List.length_map]; omega) ⟨[], rfl, rfl, (fun c hc => nomatch hc), rfl⟩ (fun j acc s hj ⟨cs, q1, q2, q3, q4⟩ T hT => ?_) (fun acc s ⟨cs, q1, q2, q3, q4⟩ => ?_)
      · subst q4
        simp [and_assoc]
        refine ⟨by omega, fun v1 h1 h2 => ?_⟩
        obtain ⟨c1, hc1, hm1⟩ := atI_mem' (xs := (lettersS ++ (Str.ofString "0123456789")).cps.toList) h1 (by rw [lC, lD]; exact h2)
        refine ⟨by rw [str_len, lC, lD]; omega, c1, hc1, ?_⟩
        exact hT _ _ (by simp [he]) ⟨cs ++ [c1], by rw [q1]; simp, by simp [q2], fun c hc => by
          rcases List.mem_append.mp hc with hc | hc
          · exact q3 c hc
          · rw [List.mem_singleton.mp hc, ← lC]; exact hm1, by simp⟩
      · subst q4 q1
        have e0 : cs.map (fun c => PyData.str ⟨#[c]⟩) = (cs.map fun c => (⟨#[c]⟩ : Str)).map PyData.str := by simp
        rw [e0]
        have sums : ∀ l : List Nat, ((l.map fun c => (⟨#[c]⟩ : Str)).map (·.length)).sum = l.length := by
          intro l
          induction l with
          | nil => rfl
          | cons c r ih =>
            rw [List.map_cons, List.map_cons, List.sum_cons, ih, List.length_cons]
            show 1 + r.length = _
            omega
        have z0 : (Str.ofString "").length = 0 := by decide +kernel
        simp only [strsOf_map, Option.some.injEq, exists_eq_left']
        rw [sums, z0]
        simp [and_assoc, can_bl he]
        refine ⟨by omega, fun v2 h6 h7 => ?_⟩
        obtain ⟨c2, hc2, hm2⟩ := atI_mem' (xs := lettersS.cps.toList) h6 (by rw [lS]; exact h7)
        refine ⟨by omega, c2, hc2, ?_⟩
        have er : ((Txt.join (Str.ofString "") (cs.map fun c => (⟨#[c]⟩ : Str)))).cps.toList = cs := join_signs cs
        have lr : ((Txt.join (Str.ofString "") (cs.map fun c => (⟨#[c]⟩ : Str)))).length = sz := by rw [str_len, er, q2]
        have l1 : ∀ c : Nat, (⟨#[c]⟩ : Str).length = 1 := fun _ => rfl
        have l14 : (Str.ofString "abcdefghijklmn").length = 14 := by decide +kernel
        have tail : ∀ j : Fin 14, atI (Str.ofString "abcdefghijklmn").cps.toList (j.val : Int) = some (97 + j.val) := by decide +kernel
        refine ⟨by rw [l1, lr]; omega, by omega, 97 + i, tail ⟨i, hi⟩, ?_, by omega, hN _ ⟨xs ++ [_], _, _, _, _, by simp only [List.map_append, List.map_cons, List.map_nil]; rfl, rfl, rfl, rfl, rfl, by simp [hl], fun j x hx2 => ?_⟩⟩
        · rw [l1, str_len, cps_app, List.length_append, er, q2]
          show 1 + sz + 1 ≤ sizeLine
          omega
        · rw [List.getElem?_append] at hx2
          by_cases hj : j < xs.length
          · rw [if_pos hj] at hx2
            exact hx j x hx2
          · rw [if_neg hj] at hx2
            obtain ⟨h8, h9⟩ := List.getElem?_eq_some_iff.mp hx2
            have h8' : j - xs.length < 1 := h8
            have ej : j = i := by omega
            subst ej
            have e0' : j - xs.length = 0 := by omega
            simp only [e0', List.getElem_cons_zero] at h9
            subst h9
            refine ⟨c2, cs, ?_, hm2, q3, by omega, by omega⟩
            rw [cps_app, cps_app, er]
            rfl
    · subst es
      simp [and_assoc]
      exact h xs hl hx
end
end Fw


namespace Fw
open PySem PySem.Spec PyProof.Rows L2 GxR Gx Gy RZ Mint
/-! ### _law_book -/
@[simp] theorem x_stockL {K : PySem.W.Frag} {n : Nat} {m : Int} {Q : Cn K → List (Cn K) → Prop} : g__law_stock [.x (drawsO K), .d (.int n), .d (.int m)] Q ↔ n ≤ 1000 ∧ 0 ≤ m ∧ ∀ es, Small n m es → Q (.d (iD es)) [.x (drawsO K), .d (.int n), .d (.int m)] := by
  constructor
  · rintro ⟨n', m', e, h⟩
    simp at e
    obtain ⟨e1, rfl⟩ := e
    have : n = n' := by omega
    subst this
    exact h
  · exact fun h => ⟨n, m, rfl, h⟩
@[simp] theorem x_namedL {K : PySem.W.Frag} {cs : List (Cn K)} {Q : Cn K → List (Cn K) → Prop} : g__law_named cs Q ↔ cs = [.x (drawsO K)] ∧ ∀ xs : List Str, xs.length = 14 → (∀ i x, xs[i]? = some x → GoodName i x) → Q (.l (xs.map PyData.str)) cs := Iff.rfl
def g__law_book {K : PySem.W.Frag} : GF K := fun cs Q => ∃ m : Int, cs = [.x (drawsO K), .d (.int m)] ∧ 0 ≤ m ∧ m ≤ 1000 ∧ ∀ kn mv, GoodBk kn mv → Q (.d (bkD kn mv)) cs
def LeL (ls es : List Int) : Prop := ∀ (i : Nat) a b, ls[i]? = some a → es[i]? = some b → a ≤ b
theorem leL_all {ls es : List Int} (h : LeL ls es) : (List.zipWith (fun a b => decide (a ≤ b)) ls es).all id = true := by
  rw [List.all_eq_true]
  intro x hx
  obtain ⟨i, hi⟩ := List.mem_iff_getElem?.mp hx
  rw [List.getElem?_zipWith] at hi
  cases e1 : ls[i]? with
  | none => rw [e1] at hi; cases hi
  | some a =>
    cases e2 : es[i]? with
    | none => rw [e1, e2] at hi; cases hi
    | some b =>
      rw [e1, e2] at hi
      cases hi
      exact decide_eq_true (h i a b e1 e2)
section
variable {P : Program} {w : World} {K : PySem.W.Frag} {mg : Str → Option Value} {base : Heap} {f T : Addr} {fd : FuncData} {Ps : List Addr}
abbrev s_law_book : Stmt := top 54
theorem sc_law_book : FnScope ["draws", "most", "names", "n", "moves", "k", "take", "high", "low", "entry"] ["draws", "most"] (defScope s_law_book) := ⟨rfl, rfl, rfl, by decide +kernel, rfl, by decide +kernel, by decide +kernel⟩
theorem ok__law_book (F : Fun K "_law_book" "_law_book" s_law_book f fd) (G : Glb mg)  (D__law_take : Def P w K mg base "_law_take" (1) ["draws", "bound"] (spA K Ps (g_take K))) (D__law_stock : Def P w K mg base "_law_stock" (2) ["draws", "n", "most"] (spA K Ps g__law_stock)) (D__law_named : Def P w K mg base "_law_named" (2) ["draws"] (spA K Ps g__law_named)) : FnOk P w K mg base CX0 (3) f fd ["draws", "most"] (spA K Ps g__law_book) := by
  refine ok_fn F sc_law_book (fun cs Q' h => ?_) (by decide) fun cdv A outer s H E hr => ?_
  · obtain ⟨m, rfl, h0, h1, h⟩ := h
    rfl
  have nd := sc_law_book.nd
  refine ⟨_, ?fs, (pss_cons (ps_set (i := 2) nd rfl (Or.inl rfl) (pe_c D__law_named (hr.mono (by decide)) (pa_cons (pv 0) pa_nil)))
    (pss_cons (ps_set (i := 3) nd rfl (Or.inl rfl) (pe_op op_add pe_int (pe_c D__law_take (hr.mono (by decide)) (pa_cons (pv 0) (pa_cons pe_int pa_nil)))))
    (pss_cons (ps_set (i := 4) nd rfl (Or.inl rfl) (pe_lst pa_nil))
    (pss_cons (ps_for PassesOwn.never rfl (pi_range1 rfl G.range (pa_cons (pe_c D__law_take (hr.mono (by decide)) (pa_cons (pv 0) (pa_cons pe_int pa_nil))) pa_nil)) (pg_name (i := 5) nd rfl (Or.inl rfl)) (pss_cons (ps_set (i := 6) nd rfl (Or.inl rfl) (pe_c D__law_stock (hr.mono (by decide)) (pa_cons (pv 0) (pa_cons (pv 3) (pa_cons (pv 1) pa_nil)))))
    (pss_cons (ps_set (i := 7) nd rfl (Or.inl rfl) (pe_c D__law_stock (hr.mono (by decide)) (pa_cons (pv 0) (pa_cons (pv 3) (pa_cons (pv 1) pa_nil)))))
    (pss_cons (ps_set (i := 8) nd rfl (Or.inl rfl) (pv 7))
    (pss_cons (ps_if (pt_cmpR op_eq (pe_c D__law_take (hr.mono (by decide)) (pa_cons (pv 0) (pa_cons pe_int pa_nil))) pe_int (nomark _)) (pss_one (ps_set (i := 8) nd rfl (Or.inl rfl) (pe_callTy cr_tuple rfl G.tuple (by decide +kernel) (pa_cons (pe_lc (own := [("entry", 9)]) (g := (gName 9)) (te := (tCall (spA K Ps (g_take K)) [] E0 (tCons (tVar 0) (tCons (tOp (rI0 fun i j => .int (i + j)) (tVar 9) (tC (.int 1))) tNil)))) (tt := tYes) rfl nd (pi_tup (pv 7)) (blkOk_by (own := [("entry", 9)]) (N := ["draws", "most", "names", "n", "moves", "k", "take", "high", "low", "entry"]) (sc := defScope s_law_book) (by decide +kernel)) (fun _ _ _ _ _ => (pg_name (i := 9) nd rfl (Or.inl rfl))) (fun _ _ _ _ _ => pts_nil) (fun _ _ _ _ _ => (pe_c D__law_take (hr.mono (by decide)) (pa_cons (pv 0) (pa_cons (pe_op op_add (pv 9) pe_int) pa_nil))))) pa_nil)))) pss_nil)
    (pss_one (ps_expr (pe_bm PySem.F.plainAttrs_list PySem.F.slot_list_append PySem.F.type_list_append mt_append (pv 4) (pa_cons (pe_tup (pa_cons (pe_ix ix_list (pv 2) (pe_op op_add pe_int (pv 5)) (fun _ _ => rfl)) (pa_cons (pv 6) (pa_cons (pv 8) (pa_cons (pv 7) pa_nil))))) pa_nil)))))))))
    (pss_one (ps_ret (pe_tup (pa_cons (pe_callTy cr_tuple rfl G.tuple (by decide +kernel) (pa_cons (pe_slice sl_list (pv 2) po_none (po_some (pv 3))) pa_nil)) (pa_cons (pe_callTy cr_tuple rfl G.tuple (by decide +kernel) (pa_cons (pv 4) pa_nil)) pa_nil))))))))), ?inst, fun cs Q' hg => ?body⟩
  case inst =>
    dsimp only [cxOf, Cx.nox, Cx.wish, List.map]
    infer_instance
  case body =>
    obtain ⟨m, rfl, h0, h1, h⟩ := hg
    simp [and_assoc]
    intro xs hxl hxs v1 h2 h3 v2 h4 h5
    obtain ⟨n, hn⟩ := Int.eq_ofNat_of_zero_le (show 0 ≤ 1 + v1 by omega)
    obtain ⟨u, rfl⟩ := Int.eq_ofNat_of_zero_le h4
    rw [hn]
    simp only [Int.toNat_natCast]
    refine ⟨by omega, by omega, ?_⟩
    have hn1 : 1 ≤ n ∧ n ≤ 6 := by omega
    refine forF_range (fun (i : Nat) s => ∃ (mv : List Mv) (c5 c6 c7 c8 c9 : SC K), s = [.io (.x (drawsO K)), .f (.d (.int m)), .f (.l (xs.map PyData.str)), .f (.d (.int n)), .f (.l (mv.map moveD)), c5, c6, c7, c8, c9] ∧ blS c5 = true ∧ blS c6 = true ∧ blS c7 = true ∧ blS c8 = true ∧ blS c9 = true ∧ mv.length = i ∧ ∀ j x, mv[j]? = some x → GoodMv n j x) (fun _ _ _ => trivial) ⟨[], .e, .e, .e, .e, .e, rfl, rfl, rfl, rfl, rfl, rfl, rfl, fun j x hx => by simp at hx⟩ (fun i s hi ⟨mv, c5, c6, c7, c8, c9, es, b5, b6, b7, b8, b9, hl, hg⟩ N hN => ?_) (fun s ⟨mv, c5, c6, c7, c8, c9, es, b5, b6, b7, b8, b9, hl, hg⟩ => ?_)
    · subst es
      have name : ∃ x, xs[6 + i]? = some x ∧ GoodName (6 + i) x := by
        have : 6 + i < xs.length := by omega
        exact ⟨xs[6 + i], List.getElem?_eq_getElem this, hxs _ _ (List.getElem?_eq_getElem this)⟩
      obtain ⟨nm, e1, gn⟩ := name
      have e2 : atI (xs.map PyData.str) (6 + (i : Int)) = some (.str nm) := by
        have := atI_nat (xs := xs.map PyData.str) (n := 6 + i) (x := .str nm) (by rw [List.getElem?_map, e1]; rfl)
        simpa using this
      have fin : ∀ (t l hgh : List Int) (c5 c6 c7 c8 c9 : SC K), Small n m t → Small n m l → Small n m hgh → LeL l hgh → blS c5 = true → blS c6 = true → blS c7 = true → blS c8 = true → blS c9 = true →
          N [.io (.x (drawsO K)), .f (.d (.int m)), .f (.l (xs.map PyData.str)), .f (.d (.int n)), .f (.l (mv.map moveD ++ [PyData.tuple [.str nm, iD t, iD l, iD hgh]])), c5, c6, c7, c8, c9] := fun t l hgh c5 c6 c7 c8 c9 s1 s2 s3 s4 b5 b6 b7 b8 b9 =>
        hN _ ⟨mv ++ [⟨nm, t, l, hgh⟩], c5, c6, c7, c8, c9, by simp [moveD], b5, b6, b7, b8, b9, by simp [hl], fun j x hx => by
          rw [List.getElem?_append] at hx
          by_cases hj : j < mv.length
          · rw [if_pos hj] at hx
            exact hg j x hx
          · rw [if_neg hj] at hx
            obtain ⟨h8, h9⟩ := List.getElem?_eq_some_iff.mp hx
            have h8' : j - mv.length < 1 := h8
            have ej : j = i := by omega
            subst ej
            have e0' : j - mv.length = 0 := by omega
            simp only [e0', List.getElem_cons_zero] at h9
            subst h9
            have up : ∀ {es : List Int}, Small n m es → Small n 1000 es := fun ⟨q1, q2⟩ => ⟨q1, fun e he => ⟨(q2 e he).1, by have := (q2 e he).2; omega⟩⟩
            exact ⟨gn, up s1, up s2, up s3, leL_all s4⟩⟩
      have hml : mv.length < 1000 := by omega
      simp [and_assoc, can_bl b5, can_bl b6, can_bl b7, can_bl b8, b9]
      refine ⟨by omega, h0, fun t ht => ⟨by omega, h0, fun hgh hh v3 h6 h7 => ?_⟩⟩
      by_cases hv : v3 = 0
      · subst hv
        simp [and_assoc, b9]
        refine compF_inv1 _ (fun j acc s => ∃ ls : List Int, acc = ls.map PyData.int ∧ ls.length = j ∧ LeL ls hgh ∧ (∀ x ∈ ls, 0 ≤ x) ∧ s = [.io (.x (drawsO K)), .f (.d (.int m)), .f (.l (xs.map PyData.str)), .f (.d (.int n)), .f (.l (mv.map moveD)), .f (.d (.int i)), .f (.d (iD t)), .f (.d (iD hgh)), .f (.d (iD hgh)), .e]) hgh (by rw [hh.1]; omega) (fun _ _ s ⟨ls, _, _, _, _, e⟩ => by subst e; simp) (fun j acc s ⟨ls, q1, q2, _⟩ => by rw [q1, List.length_map]; omega) ⟨[], rfl, rfl, (fun i a b h => by simp at h), (fun x hx => nomatch hx), rfl⟩ (fun j acc s x hx ⟨ls, q1, q2, q3, q4, q5⟩ T hT => ?_) (fun acc s ⟨ls, q1, q2, q3, q4, q5⟩ => ?_)
        · subst q5
          have hx0 := (hh.2 x (List.mem_of_getElem? hx)).1
          simp [and_assoc]
          refine ⟨by omega, fun v4 h8 h9 => hT _ _ (by simp) ⟨ls ++ [v4], by rw [q1]; simp, by simp [q2], fun i' a b ha hb => ?_, fun y hy => ?_, by simp⟩⟩
          · rw [List.getElem?_append] at ha
            by_cases hj : i' < ls.length
            · rw [if_pos hj] at ha
              exact q3 i' a b ha hb
            · rw [if_neg hj] at ha
              obtain ⟨h10, h11⟩ := List.getElem?_eq_some_iff.mp ha
              have h10' : i' - ls.length < 1 := h10
              have ej : i' = j := by omega
              subst ej
              have e0' : i' - ls.length = 0 := by omega
              simp only [e0', List.getElem_cons_zero] at h11
              rw [hx] at hb
              cases hb
              omega
          · rcases List.mem_append.mp hy with hy | hy
            · exact q4 y hy
            · rw [List.mem_singleton.mp hy]; exact h8
        · subst q5 q1
          simp [and_assoc]
          refine ⟨_, e2, hml, fin t ls hgh _ _ _ _ _ ht ⟨by rw [q2]; exact hh.1, fun e he => ⟨q4 e he, ?_⟩⟩ hh q3 rfl rfl rfl rfl rfl⟩
          obtain ⟨i', hi'⟩ := List.mem_iff_getElem?.mp he
          have hlt := (List.getElem?_eq_some_iff.mp hi').1
          have e3 : hgh[i']? = some hgh[i'] := List.getElem?_eq_getElem (by omega)
          have := q3 i' _ _ hi' e3
          have := (hh.2 _ (List.mem_of_getElem? e3)).2
          omega
      · simp [and_assoc, hv]
        exact ⟨_, e2, hml, fin t hgh hgh _ _ _ _ _ ht hh hh (fun i' a b ha hb => by rw [ha] at hb; cases hb; exact Int.le_refl _) rfl rfl rfl rfl b9⟩
    · subst es
      simp [and_assoc]
      rw [cutF_to]
      have e3 : (xs.map PyData.str).take n = (xs.take n).map PyData.str := by rw [List.map_take]
      rw [e3]
      refine h _ _ ⟨by rw [List.length_take]; omega, by rw [List.length_take]; omega, by omega, fun i x hx => ?_, fun j mm hmm => ?_⟩
      · rw [List.getElem?_take] at hx
        split at hx
        · exact hxs i x hx
        · cases hx
      · rw [List.length_take, show min n xs.length = n by omega]
        exact hg j mm hmm
end
end Fw


namespace Mint
open PySem PySem.Spec PyProof.Rows L2 GxR Gx RZ

/-! ### vectors -/
abbrev vadd (a b : List Int) : List Int := List.zipWith (fun x y => x + y) a b
abbrev vsub (a b : List Int) : List Int := List.zipWith (fun x y => x - y) a b
abbrev vmax (a b : List Int) : List Int := List.zipWith (fun x y => if y > x then y else x) a b
abbrev vsc (a : List Int) (t : Int) : List Int := a.map (fun x => x * t)
abbrev vzero (n : Nat) : List Int := List.replicate n 0
def cg (a : List Int) (i : Nat) : Int := a.getD i 0
theorem cg_of {a : List Int} {i : Nat} {x : Int} (h : a[i]? = some x) : cg a i = x := by
  unfold cg
  rw [List.getD_eq_getElem?_getD, h]
  rfl
theorem cg_some {a : List Int} {i : Nat} (h : i < a.length) : a[i]? = some (cg a i) := by
  unfold cg
  rw [List.getD_eq_getElem?_getD, List.getElem?_eq_getElem h]
  rfl
theorem cg_zip {f : Int → Int → Int} {a b : List Int} {i : Nat} (ha : i < a.length) (hb : i < b.length) : cg (List.zipWith f a b) i = f (cg a i) (cg b i) := by
  refine cg_of ?_
  rw [List.getElem?_zipWith, cg_some ha, cg_some hb]
theorem cg_map {f : Int → Int} {a : List Int} {i : Nat} (ha : i < a.length) : cg (a.map f) i = f (cg a i) := by
  refine cg_of ?_
  rw [List.getElem?_map, cg_some ha]
  rfl
theorem cg_zero {n i : Nat} (h : i < n) : cg (vzero n) i = 0 := by
  refine cg_of ?_
  rw [List.getElem?_replicate, if_pos h]
theorem cg_mem {a : List Int} {i : Nat} (h : i < a.length) : cg a i ∈ a := List.mem_of_getElem? (cg_some h)
theorem vext {a b : List Int} {n : Nat} (ha : a.length = n) (hb : b.length = n) (h : ∀ i, i < n → cg a i = cg b i) : a = b := by
  refine List.ext_getElem? fun i => ?_
  by_cases hi : i < n
  · rw [cg_some (by omega), cg_some (by omega), h i hi]
  · rw [List.getElem?_eq_none (by omega), List.getElem?_eq_none (by omega)]
theorem len_zip {f : Int → Int → Int} {a b : List Int} {n : Nat} (ha : a.length = n) (hb : b.length = n) : (List.zipWith f a b).length = n := by
  rw [List.length_zipWith, ha, hb, Nat.min_self]
/-! ### need and change -/
abbrev E2 := List Int × List Int
def eTwo (a b : E2) : E2 := (vmax a.1 (vsub b.1 a.2), vadd a.2 b.2)
def eMany (a : E2) (t : Int) : E2 := (vmax a.1 (vsub a.1 (vsc a.2 (t - 1))), vadd (vsc a.2 (t - 1)) a.2)
def EL (n : Nat) (e : E2) : Prop := e.1.length = n ∧ e.2.length = n
structure GE (n : Nat) (e : E2) : Prop where
  l1 : e.1.length = n
  l2 : e.2.length = n
  pos : ∀ i, i < n → 0 ≤ cg e.1 i
theorem e2_ext {n : Nat} {a b : E2} (ha : EL n a) (hb : EL n b) (h1 : ∀ i, i < n → cg a.1 i = cg b.1 i) (h2 : ∀ i, i < n → cg a.2 i = cg b.2 i) : a = b :=
  Prod.ext (vext ha.1 hb.1 h1) (vext ha.2 hb.2 h2)
theorem el_two {n : Nat} {a b : E2} (ha : EL n a) (hb : EL n b) : EL n (eTwo a b) := ⟨len_zip ha.1 (len_zip hb.1 ha.2), len_zip ha.2 hb.2⟩
theorem len_sc {a : List Int} {t : Int} {n : Nat} (h : a.length = n) : (vsc a t).length = n := by rw [List.length_map, h]
theorem el_many {n : Nat} {a : E2} {t : Int} (ha : EL n a) : EL n (eMany a t) := ⟨len_zip ha.1 (len_zip ha.1 (len_sc ha.2)), len_zip (len_sc ha.2) ha.2⟩
def smax (x y : Int) : Int := if y > x then y else x
theorem two1 {n i : Nat} {a b : E2} (ha : EL n a) (hb : EL n b) (hi : i < n) : cg (eTwo a b).1 i = smax (cg a.1 i) (cg b.1 i - cg a.2 i) := by
  unfold eTwo
  rw [cg_zip (by rw [ha.1]; exact hi) (by rw [len_zip hb.1 ha.2]; exact hi), cg_zip (by rw [hb.1]; exact hi) (by rw [ha.2]; exact hi)]
  rfl
theorem two2 {n i : Nat} {a b : E2} (ha : EL n a) (hb : EL n b) (hi : i < n) : cg (eTwo a b).2 i = cg a.2 i + cg b.2 i := by
  unfold eTwo
  rw [cg_zip (by rw [ha.2]; exact hi) (by rw [hb.2]; exact hi)]
theorem many1 {n i : Nat} {a : E2} {t : Int} (ha : EL n a) (hi : i < n) : cg (eMany a t).1 i = smax (cg a.1 i) (cg a.1 i - cg a.2 i * (t - 1)) := by
  unfold eMany
  rw [cg_zip (by rw [ha.1]; exact hi) (by rw [len_zip ha.1 (len_sc ha.2)]; exact hi), cg_zip (by rw [ha.1]; exact hi) (by rw [len_sc ha.2]; exact hi), cg_map (by rw [ha.2]; exact hi)]
  rfl
theorem many2 {n i : Nat} {a : E2} {t : Int} (ha : EL n a) (hi : i < n) : cg (eMany a t).2 i = cg a.2 i * (t - 1) + cg a.2 i := by
  unfold eMany
  rw [cg_zip (by rw [len_sc ha.2]; exact hi) (by rw [ha.2]; exact hi), cg_map (by rw [ha.2]; exact hi)]
def ezero (n : Nat) : E2 := (vzero n, vzero n)
theorem el_zero (n : Nat) : EL n (ezero n) := ⟨List.length_replicate, List.length_replicate⟩
theorem two_assoc {n : Nat} {a b c : E2} (ha : EL n a) (hb : EL n b) (hc : EL n c) : eTwo (eTwo a b) c = eTwo a (eTwo b c) := by
  have hab := el_two ha hb
  have hbc := el_two hb hc
  refine e2_ext (el_two hab hc) (el_two ha hbc) (fun i hi => ?_) fun i hi => ?_
  · rw [two1 hab hc hi, two1 ha hbc hi, two1 ha hb hi, two2 ha hb hi, two1 hb hc hi]
    unfold smax
    repeat' split
    all_goals omega
  · rw [two2 hab hc hi, two2 ha hbc hi, two2 ha hb hi, two2 hb hc hi]
    omega
theorem zero_two {n : Nat} {a : E2} (ha : GE n a) : eTwo (ezero n) a = a := by
  have el : EL n a := ⟨ha.l1, ha.l2⟩
  refine e2_ext (el_two (el_zero n) el) el (fun i hi => ?_) fun i hi => ?_
  · rw [two1 (el_zero n) el hi]
    have := ha.pos i hi
    show smax (cg (vzero n) i) (cg a.1 i - cg (vzero n) i) = _
    rw [cg_zero hi]
    unfold smax
    split <;> omega
  · rw [two2 (el_zero n) el hi]
    show cg (vzero n) i + _ = _
    rw [cg_zero hi]
    omega
theorem ge_zero (n : Nat) : GE n (ezero n) := ⟨(el_zero n).1, (el_zero n).2, fun i hi => by show 0 ≤ cg (vzero n) i; rw [cg_zero hi]; exact Int.le_refl 0⟩
theorem GE.el {n : Nat} {a : E2} (h : GE n a) : EL n a := ⟨h.l1, h.l2⟩
theorem ge_two {n : Nat} {a b : E2} (ha : GE n a) (hb : EL n b) : GE n (eTwo a b) := by
  have h := el_two ha.el hb
  refine ⟨h.1, h.2, fun i hi => ?_⟩
  rw [two1 ha.el hb hi]
  have := ha.pos i hi
  unfold smax
  split <;> omega
theorem ge_many {n : Nat} {a : E2} {t : Int} (ha : GE n a) : GE n (eMany a t) := by
  have h := el_many (t := t) ha.el
  refine ⟨h.1, h.2, fun i hi => ?_⟩
  rw [many1 ha.el hi]
  have := ha.pos i hi
  unfold smax
  split <;> omega
theorem many_one {n : Nat} {a : E2} (ha : EL n a) : eMany a ((0 + 1 : Nat) : Int) = a := by
  refine e2_ext (el_many ha) ha (fun i hi => ?_) fun i hi => ?_
  · rw [many1 ha hi, show (((0 + 1 : Nat) : Int) - 1) = 0 by omega, Int.mul_zero]
    unfold smax
    split <;> omega
  · rw [many2 ha hi, show (((0 + 1 : Nat) : Int) - 1) = 0 by omega, Int.mul_zero]
    omega
theorem many_succ {n : Nat} {a : E2} (k : Nat) (ha : EL n a) : eMany a ((k + 1 + 1 : Nat) : Int) = eTwo a (eMany a ((k + 1 : Nat) : Int)) := by
  have hm := el_many (t := ((k + 1 : Nat) : Int)) ha
  refine e2_ext (el_many ha) (el_two ha hm) (fun i hi => ?_) fun i hi => ?_
  · rw [many1 ha hi, two1 ha hm hi, many1 ha hi, show (((k + 1 + 1 : Nat) : Int) - 1) = (k : Int) + 1 by omega, show (((k + 1 : Nat) : Int) - 1) = (k : Int) by omega, Int.mul_add, Int.mul_one]
    generalize cg a.1 i = x
    generalize cg a.2 i = c
    have h1 : 0 ≤ c → 0 ≤ c * (k : Int) := fun h => Int.mul_nonneg h (Int.natCast_nonneg k)
    have h2 : c ≤ 0 → c * (k : Int) ≤ 0 := fun h => Int.mul_nonpos_of_nonpos_of_nonneg h (Int.natCast_nonneg k)
    generalize c * (k : Int) = y at h1 h2 ⊢
    unfold smax
    repeat' split
    all_goals omega
  · rw [many2 ha hi, two2 ha hm hi, many2 ha hi, show (((k + 1 + 1 : Nat) : Int) - 1) = (k : Int) + 1 by omega, show (((k + 1 : Nat) : Int) - 1) = (k : Int) by omega, Int.mul_add, Int.mul_one]
    omega
/-! ### runs -/
inductive RSt where
  | mv (m : Nat)
  | rep (k : Nat) (r : List RSt)
mutual
def stD : RSt → PyData
  | .mv m => .tuple [.str "do", .int m]
  | .rep k r => .tuple [.str "rep", .int k, .tuple (rnD r)]
def rnD : List RSt → List PyData
  | [] => []
  | s :: r => stD s :: rnD r
end
theorem rnD_map : ∀ r : List RSt, rnD r = r.map stD
  | [] => rfl
  | s :: r => by rw [rnD, rnD_map r]; rfl
theorem rnD_app (a b : List RSt) : rnD (a ++ b) = rnD a ++ rnD b := by rw [rnD_map, rnD_map, rnD_map, List.map_append]
theorem rnD_len (a : List RSt) : (rnD a).length = a.length := by rw [rnD_map, List.length_map]
/-- a bound of the counts and of the lengths -/
def TB (t : Nat × Nat) : Prop := t.1 < 2 ^ 100 ∧ t.2 ≤ 200
/-- steps of at most so many levels below -/
def GSt (nm : Nat) (t : Nat × Nat) : Nat → RSt → Prop
  | 0, s => ∃ m, s = .mv m ∧ m < nm
  | d + 1, s => (∃ m, s = .mv m ∧ m < nm) ∨ ∃ k r, s = .rep k r ∧ 1 ≤ k ∧ k ≤ t.1 ∧ r ≠ [] ∧ r.length ≤ t.2 ∧ ∀ x ∈ r, GSt nm t d x
structure GRn (nm : Nat) (t : Nat × Nat) (d : Nat) (r : List RSt) : Prop where
  three : r.length ≤ t.2
  all : ∀ x ∈ r, GSt nm t d x
theorem gst_mv {nm d m : Nat} {t : Nat × Nat} (h : m < nm) : GSt nm t d (.mv m) := by
  cases d with
  | zero => exact ⟨m, rfl, h⟩
  | succ d => exact .inl ⟨m, rfl, h⟩
mutual
theorem noLst_st : ∀ s : RSt, noLst (stD s) = true
  | .mv m => rfl
  | .rep k r => by
    show (true && (true && (noLsts (rnD r) && true))) = true
    rw [noLst_rn r]
    rfl
theorem noLst_rn : ∀ r : List RSt, noLsts (rnD r) = true
  | [] => rfl
  | s :: r => by
    show (noLst (stD s) && noLsts (rnD r)) = true
    rw [noLst_st s, noLst_rn r]
    rfl
end
mutual
theorem lay_st : ∀ s : RSt, (stD s).canLay0 = true
  | .mv m => by
    have l : (PyData.str "do").canLay0 = true := by decide +kernel
    simp only [stD, PyData.canLay0, PyData.canLayAll0] at l ⊢
    rw [l]
    rfl
  | .rep k r => by
    have l : (PyData.str "rep").canLay0 = true := by decide +kernel
    have h := lay_rn r
    simp only [stD, PyData.canLay0, PyData.canLayAll0] at l ⊢
    rw [l, h]
    rfl
theorem lay_rn : ∀ r : List RSt, PyData.canLayAll0 (rnD r) = true
  | [] => by simp [rnD, PyData.canLayAll0]
  | s :: r => by
    simp only [rnD, PyData.canLayAll0]
    rw [lay_st s, lay_rn r]
    rfl
end
theorem depth_rn {n : Nat} : ∀ r : List RSt, (∀ s ∈ r, (stD s).depth ≤ n) → PyData.depthAll (rnD r) ≤ n
  | [], _ => by simp [rnD, PyData.depthAll]
  | s :: r, h => by
    simp only [rnD, PyData.depthAll]
    have h1 := h s List.mem_cons_self
    have h2 := depth_rn r fun y hy => h y (List.mem_cons_of_mem _ hy)
    omega
theorem depth_st {nm : Nat} {t : Nat × Nat} : ∀ (d : Nat) (s : RSt), GSt nm t d s → (stD s).depth ≤ 2 * d + 1
  | 0, s, h => by
    obtain ⟨m, rfl, _⟩ := h
    simp [stD, PyData.depth, PyData.depthAll]
  | d + 1, s, h => by
    rcases h with ⟨m, rfl, _⟩ | ⟨k, r, rfl, _, _, _, _, h⟩
    · simp [stD, PyData.depth, PyData.depthAll]
    · have := depth_rn (n := 2 * d + 1) r fun x hx => depth_st d x (h x hx)
      simp only [stD, PyData.depth, PyData.depthAll]
      omega
theorem shaped_rn {nm d : Nat} {t : Nat × Nat} {r : List RSt} (h : GRn nm t d r) (hd : d ≤ 28) : SeqAt.shaped (.tuple (rnD r)) = true := by
  have := depth_rn (n := 2 * d + 1) r fun x hx => depth_st d x (h.all x hx)
  unfold SeqAt.shaped
  have l : (PyData.tuple (rnD r)).canLay0 = true := by
    simp only [PyData.canLay0]
    exact lay_rn r
  have e : (PyData.tuple (rnD r)).depth ≤ 2 * d + 2 := by
    simp only [PyData.depth]
    omega
  rw [l, decide_eq_true (by omega)]
  rfl
theorem rn_ne {r : List RSt} (h : PyData.eqv (.tuple (rnD r)) (.tuple []) = false) : r ≠ [] := fun z => by
  subst z
  exact absurd h (by decide +kernel)
end Mint


namespace Fw
open PySem PySem.Spec PyProof.Rows L2 GxR Gx Gy RZ Mint
/-! ### _law_run -/
theorem gst_repF {nm d k : Nat} {t : Nat × Nat} {r : List RSt} (h : GRn nm t d r) (h1 : 1 ≤ k) (h2 : k ≤ t.1) (hr : r ≠ []) : GSt nm t (d + 1) (.rep k r) := .inr ⟨k, r, rfl, h1, h2, hr, h.three, h.all⟩
def g__law_run {K : PySem.W.Frag} (N : Nat) : GF K := fun cs Q => ∃ nm k t : Nat, cs = [.x (drawsO K), .d (.int nm), .d (.int k), .d (.int t)] ∧ k < N ∧ k ≤ 20 ∧ 0 < t ∧ ∀ r, GRn nm (t, 3) k r → Q (.d (.tuple (rnD r))) cs
theorem x_runL {K : PySem.W.Frag} {N : Nat} {nm k t : Nat} {Q : Cn K → List (Cn K) → Prop} (h : k < N ∧ k ≤ 20 ∧ 0 < t ∧ ∀ r, GRn nm (t, 3) k r → Q (.d (.tuple (rnD r))) [.x (drawsO K), .d (.int nm), .d (.int k), .d (.int t)]) : g__law_run N [.x (drawsO K), .d (.int nm), .d (.int k), .d (.int t)] Q := ⟨nm, k, t, rfl, h⟩
theorem shaped_nil : SeqAt.shaped (.tuple []) = true := by decide +kernel
theorem eqv_rn (r : List RSt) : (PyData.eqv (.tuple (rnD r)) (.tuple [])) = r.isEmpty := by
  cases r with
  | nil => decide +kernel
  | cons x r =>
    show PyData.eqv (.tuple (stD x :: rnD r)) (.tuple []) = false
    simp [PyData.eqv, PyData.eqvAll]
section
variable {P : Program} {w : World} {K : PySem.W.Frag} {mg : Str → Option Value} {base : Heap} {f T : Addr} {fd : FuncData} {Ps : List Addr}
abbrev s_law_run : Stmt := top 55
theorem sc_law_run : FnScope ["draws", "moves", "depth", "times", "steps", "k", "inner"] ["draws", "moves", "depth", "times"] (defScope s_law_run) := ⟨rfl, rfl, rfl, by decide +kernel, rfl, by decide +kernel, by decide +kernel⟩
theorem ok__law_run {N lv : Nat} (F : Fun K "_law_run" "_law_run" s_law_run f fd) (G : Glb mg) (hlv : 1 ≤ lv) (D__law_take : Def P w K mg base "_law_take" (1) ["draws", "bound"] (spA K Ps (g_take K))) (DR : Def P w K mg base "_law_run" lv ["draws", "moves", "depth", "times"] (spA K Ps (g__law_run N))) : FnOk P w K mg base CX0 (lv + 1) f fd ["draws", "moves", "depth", "times"] (spA K Ps (g__law_run (N + 1))) := by
  refine ok_fn F sc_law_run (fun cs Q' h => ?_) (by decide) fun cdv A outer s H E hr => ?_
  · obtain ⟨nm, k, t, rfl, _⟩ := h
    rfl
  have nd := sc_law_run.nd
  refine ⟨_, ?fs, (pss_cons (ps_set (i := 4) nd rfl (Or.inl rfl) (pe_lst pa_nil))
    (pss_cons (ps_for PassesOwn.never rfl (pi_range1 rfl G.range (pa_cons (pe_c D__law_take (hr.mono (by omega)) (pa_cons (pv 0) (pa_cons pe_int pa_nil))) pa_nil)) (pg_name (i := 5) nd rfl (Or.inl rfl)) (pss_cons (ps_if (pt_cmpR op_eq (pv 1) pe_int (nomark _)) (pss_one (ps_ret (pe_tup pa_nil))) pss_nil)
    (pss_cons (ps_set (i := 6) nd rfl (Or.inl rfl) (pe_tup pa_nil))
    (pss_cons (ps_if (PW.pt (pw_and (pt_cmpR op_gt (pv 2) pe_int (nomark _)) (pw_and1 (pt_cmpR op_eq (pe_c D__law_take (hr.mono (by omega)) (pa_cons (pv 0) (pa_cons pe_int pa_nil))) pe_int (nomark _))))) (pss_one (ps_set (i := 6) nd rfl (Or.inl rfl) (pe_c DR (hr) (pa_cons (pv 0) (pa_cons (pv 1) (pa_cons (pe_op op_sub (pv 2) pe_int) (pa_cons (pv 3) pa_nil))))))) pss_nil)
    (pss_one (ps_if (pt_cmpR (op_eqD hr.units) (pv 6) (pe_tup pa_nil) (nomark _)) (pss_one (ps_expr (pe_bm PySem.F.plainAttrs_list PySem.F.slot_list_append PySem.F.type_list_append mt_append (pv 4) (pa_cons (pe_tup (pa_cons pe_str (pa_cons (pe_c D__law_take (hr.mono (by omega)) (pa_cons (pv 0) (pa_cons (pv 1) pa_nil))) pa_nil))) pa_nil)))) (pss_one (ps_expr (pe_bm PySem.F.plainAttrs_list PySem.F.slot_list_append PySem.F.type_list_append mt_append (pv 4) (pa_cons (pe_tup (pa_cons pe_str (pa_cons (pe_op op_add pe_int (pe_c D__law_take (hr.mono (by omega)) (pa_cons (pv 0) (pa_cons (pv 3) pa_nil)))) (pa_cons (pv 6) pa_nil)))) pa_nil))))))))))
    (pss_one (ps_ret (pe_callTy cr_tuple rfl G.tuple (by decide +kernel) (pa_cons (pv 4) pa_nil)))))), ?inst, fun cs Q' hg => ?body⟩
  case inst =>
    dsimp only [cxOf, Cx.nox, Cx.wish, List.map]
    infer_instance
  case body =>
    obtain ⟨nm, k, t, rfl, hk, hk2, ht, h⟩ := hg
    simp [and_assoc]
    intro v1 h0 h1
    obtain ⟨u, rfl⟩ := Int.eq_ofNat_of_zero_le h0
    refine ⟨by omega, by omega, ?_⟩
    rw [Int.toNat_natCast]
    refine forF_range (fun (i : Nat) s => ∃ (rs : List RSt) (c5 c6 : SC K), s = [.io (.x (drawsO K)), .f (.d (.int nm)), .f (.d (.int k)), .f (.d (.int t)), .f (.l (rnD rs)), c5, c6] ∧ blS c5 = true ∧ blS c6 = true ∧ rs.length ≤ i ∧ ∀ x ∈ rs, GSt nm (t, 3) k x) (fun _ _ _ => trivial) ⟨[], .e, .e, rfl, rfl, rfl, Nat.le_refl _, (fun x hx => nomatch hx)⟩ (fun i s hi ⟨rs, c5, c6, es, b5, b6, hl, hg⟩ N hN => ?_) (fun s ⟨rs, c5, c6, es, b5, b6, hl, hg⟩ => ?_)
    · subst es
      have fin : ∀ (x : RSt) (c5 c6 : SC K), GSt nm (t, 3) k x → blS c5 = true → blS c6 = true → N [.io (.x (drawsO K)), .f (.d (.int nm)), .f (.d (.int k)), .f (.d (.int t)), .f (.l (rnD rs ++ [stD x])), c5, c6] := fun x c5 c6 hx b5 b6 =>
        hN _ ⟨rs ++ [x], c5, c6, by rw [rnD_app]; rfl, b5, b6, by rw [List.length_append]; exact Nat.succ_le_succ hl, fun y hy => by
          rcases List.mem_append.mp hy with hy | hy
          · exact hg y hy
          · rw [List.mem_singleton.mp hy]; exact hx⟩
      have hlen : (rnD rs).length < 1000 := by rw [rnD_len]; omega
      by_cases hnm : nm = 0
      · subst hnm
        simp [and_assoc, can_bl b5]
        exact h [] ⟨Nat.zero_le _, fun x hx => nomatch hx⟩
      · have doW : ∀ (c5 c6 : SC K) (v : Int), 0 ≤ v → v < (nm : Int) → blS c5 = true → blS c6 = true → N [.io (.x (drawsO K)), .f (.d (.int nm)), .f (.d (.int k)), .f (.d (.int t)), .f (.l (rnD rs ++ [.tuple [.str (Str.ofString "do"), .int v]])), c5, c6] := fun c5 c6 v h2 h3 b5 b6 => by
          obtain ⟨j, rfl⟩ := Int.eq_ofNat_of_zero_le h2
          exact fin (.mv j) c5 c6 (gst_mv (by omega)) b5 b6
        have en : PyData.eqv (.tuple []) (.tuple []) = true := by decide +kernel
        have hnm0 : 0 < nm := by omega
        cases k with
        | zero =>
          simp [and_assoc, can_bl b5, can_bl b6, hnm, shaped_nil, en, hlen, hnm0]
          exact fun v h2 h3 => doW _ _ v h2 h3 rfl rfl
        | succ k =>
          have ek : ((k + 1 : Nat) : Int) - 1 = (k : Int) := by omega
          have ek2 : ((k : Int) + 1) - 1 = (k : Int) := by omega
          simp [and_assoc, can_bl b5, can_bl b6, hnm, shaped_nil, en, hlen, hnm0, ek, ek2]
          intro v h2 h3
          by_cases hv : v = 0
          · refine .inr ⟨hv, x_runL ⟨by omega, by omega, ht, fun r hr => ?_⟩⟩
            have sh : SeqAt.shaped (.tuple (rnD r)) = true := shaped_rn hr (by omega)
            have er := eqv_rn r
            simp [and_assoc, sh, shaped_nil, er, hlen, hnm0]
            cases r with
            | nil =>
              simp
              exact fun v h2 h3 => doW _ _ v h2 h3 rfl rfl
            | cons x r =>
              simp
              refine ⟨ht, fun v h2 h3 => ?_⟩
              obtain ⟨j, hj⟩ := Int.eq_ofNat_of_zero_le (show 0 ≤ 1 + v by omega)
              rw [hj]
              exact fin (.rep j (x :: r)) _ _ (gst_repF hr (by omega) (by show j ≤ t; omega) (by simp)) rfl rfl
          · refine .inl ⟨hv, fun v4 h4 h5 => doW _ _ v4 h4 h5 rfl rfl⟩
    · subst es
      simp [and_assoc]
      exact h rs ⟨by omega, hg⟩
end
end Fw


namespace Fw
open PySem PySem.Spec PyProof.Rows L2 GxR Gx Gy RZ Mint
section
variable {X : Cx} {e st : Expr} {te : TE} {ts : TO} {pos p2 : Pos}
/-! ### xs[::-1] -/
def tRev (K : PySem.W.Frag) (te : TE) : TE := fun σ H Q => te σ H fun x H1 => ∃ a xs, x = .ref a ∧ SqL K H1 a xs ∧ ∀ p, H1 p = none → Q (.ref p) (upd H1 p (.lst xs.reverse))
theorem pe_rev (he : PE X e te) (hs : PO X (some st) ts) (hts : ∀ σ H Q, Q (some (-1)) H → ts σ H Q) : PE X (.Subscript e (.Slice none none (some st) p2) pos) (tRev X.K te) := by
  refine ⟨fun pins s σ H Q I h => ?_⟩
  refine Subscript_ (thn (he.run pins s σ H _ I h) fun v s1 ⟨x, H1, I1, r1, a, xs, ex, hx, q⟩ => ?_)
  subst ex
  refine wpAny_Slice ?_
  rw [evalPart_none]
  refine wpAny_pure ?_
  refine wpAny_pure ?_
  refine thn (hs.run pins s1 σ H1 (fun o H2 => o = some (-1) ∧ H2 = H1) I1 (hts _ _ _ ⟨rfl, rfl⟩)) fun vk s3 ⟨o, H3, I3, pk, eo, eH⟩ => ?_
  subst eo eH
  cases r1
  obtain ⟨its, r, ht, hz⟩ := I3.list hx
  have I4 : L2.Inv X pins σ H3 { s3 with heap := s3.heap.push { cls := .type "slice", data := .fields #[.none, .none, vk] } } := I3.kept (t' := s3.toks) fun b ob q => Heap.get?_push_of_some _ q
  obtain ⟨its', r', ht', hz'⟩ := I4.list hx
  show wpAny (model X.prog X.w) X.A (subscriptTail e (.Slice none none (some st) p2) (.ref a) (.ref s3.heap.objs.size)) (EP X pins σ Q) X.xe { s3 with heap := s3.heap.push { cls := .type "slice", data := .fields #[.none, .none, vk] } }
  refine tail_any (T := "list") (ops := [.ref a, .ref s3.heap.objs.size]) ht'.isList.typeIs slot_list_getitem.lookup ?_ (by with_unfolding_all rfl)
  refine wpAny_getItem_list_slice ht'.isList (Heap.IsSliceOf.new ..) .none .none pk (by decide) ?_ (by rw [List.size_toArray, ← r'.length]; exact hz')
  rw [PySem.W.krv_pick]
  have hrev : Vals xs.reverse its'.reverse := by
    have : ∀ {ys : List V} {us : List Value}, Vals ys us → Vals ys.reverse us.reverse := fun {ys us} h => by
      induction h with
      | nil => exact .nil
      | cons h t ih => rw [List.reverse_cons, List.reverse_cons]; exact ih.append (.cons h .nil)
    exact this r'
  refine ⟨.ref _, _, I4.laid (t' := s3.toks) (o := .lst xs.reverse) (fun b ob q => Heap.get?_push_of_some _ q) (Nat.le_refl _) ?_, rfl, q _ (I4.hok.fresh (Nat.le_refl _))⟩
  exact ⟨by rw [List.length_reverse]; exact hz', _, 0, hrev, Heap.get?_push_size _ rfl⟩
end
section
variable {K : PySem.W.Frag} {Ps : List Addr} {te ta tb tc to : TE} {fe fa fb fc fo : AE K}
def aRev {K : PySem.W.Frag} (a : AE K) : AE K := fun s Q => a s fun r s1 => ∃ ds, valOf s1 r = some (.l ds) ∧ Q (.n (.l ds.reverse)) s1
theorem FzA.rev {H : Hp} {us : List V} {ds : List PyData} (h : FzA K H us ds) : FzA K H us.reverse ds.reverse := by
  have key : ∀ {ds : List PyData} {us : List V}, FzA K H us ds → FzA K H us.reverse ds.reverse := by
    intro ds
    induction ds with
    | nil => intro us h; cases h; exact .nil
    | cons d ds ih =>
      intro us h
      cases h with
      | cons r t => rw [List.reverse_cons, List.reverse_cons]; exact (ih t).app (.cons r .nil)
  exact key h
instance snd_rev [a : SndE K Ps te fe] : SndE K Ps (tRev K te) (aRev fe) := ⟨fun {base M P H σ s fp Q Q'} rs h q => by
  refine a.run rs h fun v H1 r1 s1 G rs1 k1 e1 n1 ⟨ds, ed, h1⟩ => ?_
  have hr := rs1.val' e1 ed
  obtain ⟨p, us, rfl, hS, hA⟩ := rep_l hr
  refine ⟨p, us, rfl, hS, fun l hl => ?_⟩
  have k : Kp F0 H1 (upd H1 l (.lst us.reverse)) := .new hl _
  exact q _ _ (.n (.l ds.reverse)) s1 [l] (rs1.ext k) (k1.trans (k.mono fun _ z => z.elim)) ⟨l, _, rfl, rfl, upd_same, (hA.rev).keep k⟩ (fun a ha => by rw [List.mem_singleton.mp ha]; exact k1.non l hl) h1⟩
/-! ### == of lists and tuples -/
def dataC {K : PySem.W.Frag} : Cn K → Option PyData
  | .d x => some x
  | .l xs => some (.list xs)
  | _ => none
theorem dataC_dp {H : Hp} {v : V} {c : Cn K} {L : List Addr} {d : PyData} (h : Rep K H v c L) (e : dataC c = some d) : Dp K H v d := by
  cases c with
  | d x => cases e; exact h.1.dp
  | l xs =>
    cases e
    obtain ⟨p, us, rfl, hS, hA⟩ := rep_l h
    exact .lst hS hA.dp
  | k x => cases e
  | t x => cases e
  | x x => cases e
def rEqC (K : PySem.W.Frag) : R2 := rEqD K
def rNeC (K : PySem.W.Frag) : R2 := rNeD K
def cEqD {K : PySem.W.Frag} : Cn K → Cn K → (Cn K → Prop) → Prop := fun x y Q => ∃ d e, dataC x = some d ∧ dataC y = some e ∧ SeqAt.shaped d = true ∧ SeqAt.shaped e = true ∧ Q (.d (.bool (PyData.eqv d e)))
instance op_eqC : OpC K (rEqC K) cEqD := ⟨fun {H u v x y L L' Q Q'} hu hv h q => by
  obtain ⟨d, e, h1, h2, h3, h4, h⟩ := h
  exact ⟨d, e, dataC_dp hu h1, dataC_dp hv h2, h3, h4, q _ H (.d (.bool _)) [] .refl ⟨.bl _, rfl⟩ (fun a z => nomatch z) h⟩⟩
end
section
variable {X : Cx}
theorem fo_eqC (hu : X.A.units + 64 < cLine) : OpR X (compareOp .Eq) (rEqC X.K) := op_eqD hu
theorem rev_m1 {σ : L2.St} {H : Hp} {Q : Option Int → Hp → Prop} (h : Q (some (-1)) H) : tPart (tUn (rU fun i => .int (-i)) (tC (.int 1))) σ H Q := ⟨1, rfl, -1, rfl, h⟩
end
section
variable {K : PySem.W.Frag} {s : Sto K} {Q : RV K → Sto K → Prop} {a b : AE K}
@[simp] theorem x_rev : aRev a s Q ↔ a s fun r s1 => ∃ ds, valOf s1 r = some (.l ds) ∧ Q (.n (.l ds.reverse)) s1 := Iff.rfl
@[simp] theorem x_eqC {x y : Cn K} {R : Cn K → Prop} : cEqD x y R ↔ ∃ d e, dataC x = some d ∧ dataC y = some e ∧ SeqAt.shaped d = true ∧ SeqAt.shaped e = true ∧ R (.d (.bool (PyData.eqv d e))) := Iff.rfl
@[simp] theorem data_d {x : PyData} : dataC (K := K) (.d x) = some x := rfl
@[simp] theorem data_l {x : List PyData} : dataC (K := K) (.l x) = some (.list x) := rfl
end
end Fw


namespace Mint
open PySem PySem.Spec PyProof.Rows L2
open PySem.Builtin.Str (subAt strSub occurrences partsBetween)

/-! ### where a text stands in another one, all places known -/
/-- from a on, one behind the other -/
def Places (s y : Str) : Nat → List Nat → Prop
  | _, [] => True
  | a, p :: r => a ≤ p ∧ p + y.length ≤ s.length ∧ subAt s y p = true ∧ Places s y (p + y.length) r
theorem Places.ge {s y : Str} : ∀ {ps : List Nat} {a p : Nat}, Places s y a ps → p ∈ ps → a ≤ p
  | q :: r, a, p, h, hp => by
    rcases List.mem_cons.mp hp with e | hp
    · rw [e]; exact h.1
    · exact Nat.le_trans h.1 (Nat.le_trans (Nat.le_add_right _ _) (h.2.2.2.ge hp))
theorem occ_run {s y : Str} {limit : Nat} (hy : 1 ≤ y.length) : ∀ (k m : Nat) (ps : List Nat) (found : Array Nat) (free : Nat), m + k = s.length + 1 → found.size + ps.length ≤ limit → Places s y free ps → (∀ p ∈ ps, m ≤ p) →
    (∀ i, m ≤ i → free ≤ i → i + y.length ≤ s.length → subAt s y i = true → i ∈ ps) → (forIn (List.range' m k) (found, free) (StrLaws.occBody s y s.length limit)).run.fst.toList = found.toList ++ ps
  | 0, m, ps, found, free, hk, hl, hp, hge, hon => by
    have : ps = [] := by
      cases ps with
      | nil => rfl
      | cons p r =>
        have h1 := hge p List.mem_cons_self
        have h2 := hp.2.1
        omega
    rw [this, List.append_nil]
    rfl
  | k + 1, m, ps, found, free, hk, hl, hp, hge, hon => by
    rw [List.range'_succ, List.forIn_cons]
    by_cases hc : ((found.size < limit ∧ free ≤ m) ∧ m + y.length ≤ s.length) ∧ subAt s y m = true
    · have hm := hon m (Nat.le_refl _) hc.1.1.2 hc.1.2 hc.2
      obtain ⟨r, rfl⟩ : ∃ r, ps = m :: r := by
        cases ps with
        | nil => cases hm
        | cons p r =>
          rcases List.mem_cons.mp hm with e | hm
          · exact ⟨r, by rw [e]⟩
          · have h1 := hp.2.2.2.ge hm
            have h2 := hge p List.mem_cons_self
            omega
      have e : StrLaws.occBody s y s.length limit m (found, free) = pure (ForInStep.yield (found.push m, m + y.length)) := by
        unfold StrLaws.occBody
        rw [if_pos hc]
      rw [e]
      have ih := occ_run (limit := limit) hy k (m + 1) r (found.push m) (m + y.length) (by omega) (by rw [Array.size_push]; simp at hl; omega) hp.2.2.2 (fun p hpr => by
        have := hp.2.2.2.ge hpr
        omega) (fun i h1 h2 h3 h4 => by
        have := hon i (by omega) (by have := hp.1; omega) h3 h4
        rcases List.mem_cons.mp this with e | this
        · omega
        · exact this)
      have : (forIn (List.range' (m + 1) k) (found.push m, m + y.length) (StrLaws.occBody s y s.length limit)).run.fst.toList = found.toList ++ m :: r := by
        rw [ih, Array.toList_push, List.append_assoc]
        rfl
      exact this
    · have e : StrLaws.occBody s y s.length limit m (found, free) = pure (ForInStep.yield (found, free)) := by
        unfold StrLaws.occBody
        rw [if_neg hc]
      rw [e]
      have hnm : ∀ p ∈ ps, m + 1 ≤ p := fun p hpm => by
        have h1 := hge p hpm
        rcases Nat.lt_or_ge m p with h | h
        · exact h
        · exfalso
          have ep : p = m := by omega
          subst ep
          cases ps with
          | nil => cases hpm
          | cons q r =>
            have h2 := hge q List.mem_cons_self
            have eq : q = p := by
              rcases List.mem_cons.mp hpm with e | hpm
              · exact e.symm
              · have := hp.2.2.2.ge hpm
                omega
            subst eq
            exact hc ⟨⟨⟨by simp at hl; omega, hp.1⟩, hp.2.1⟩, hp.2.2.1⟩
      have ih := occ_run (limit := limit) hy k (m + 1) ps found free (by omega) hl hp hnm (fun i h1 h2 h3 h4 => hon i (by omega) h2 h3 h4)
      exact ih
theorem occ_is {s y : Str} {ps : List Nat} {limit : Nat} (hy : 1 ≤ y.length) (hl : ps.length ≤ limit) (hp : Places s y 0 ps) (hon : ∀ i, i + y.length ≤ s.length → subAt s y i = true → i ∈ ps) : occurrences s y 0 s.length limit = ps := by
  rw [StrLaws.occ_eq]
  have := occ_run (limit := limit) hy (s.length + 1 - 0) 0 ps #[] 0 (by omega) (by simpa using hl) hp (fun p _ => Nat.zero_le p) (fun i _ _ h3 h4 => hon i h3 h4)
  simpa using this

/-! ### texts as lists of signs -/
abbrev sgn (x : Str) : List Nat := x.cps.toList
theorem sgn_len (x : Str) : (sgn x).length = x.length := by
  show x.cps.toList.length = x.cps.size
  simp
theorem sgn_app (x y : Str) : sgn (x ++ y) = sgn x ++ sgn y := by
  show (x.cps ++ y.cps).toList = _
  simp
theorem sgn_ext {x y : Str} (h : sgn x = sgn y) : x = y := by
  obtain ⟨a⟩ := x
  obtain ⟨b⟩ := y
  exact congrArg Str.mk (Array.toList_inj.mp h)
theorem subAt_sgn (s y : Str) (i : Nat) : subAt s y i = (((sgn s).drop i).take y.length == sgn y) := StrLaws.subAt_eq s y i
/-- y stands at i: what stands at i + j is y's j-th sign -/
theorem subAt_get {s y : Str} {i j : Nat} (h : subAt s y i = true) (hj : j < y.length) : (sgn s)[i + j]? = (sgn y)[j]? := by
  rw [subAt_sgn] at h
  have e := eq_of_beq h
  rw [← e, List.getElem?_take_of_lt hj, List.getElem?_drop]
theorem subAt_mid (a y b : Str) : subAt (a ++ y ++ b) y a.length = true := by
  rw [subAt_sgn, sgn_app, sgn_app, List.append_assoc]
  have : (sgn a ++ (sgn y ++ sgn b)).drop a.length = sgn y ++ sgn b := by
    rw [← sgn_len a, List.drop_left]
  rw [this, ← sgn_len y, List.take_left]
  exact beq_self_eq_true _
theorem sub_left (a b : Str) : strSub (a ++ b) 0 a.length = a := by
  apply sgn_ext
  rw [show sgn (strSub (a ++ b) 0 a.length) = _ from StrLaws.strSub_toList _ _ _, List.drop_zero, Nat.sub_zero]
  rw [show (a ++ b).cps.toList = sgn a ++ sgn b from sgn_app a b, ← sgn_len a, List.take_left]
theorem sub_right (a b : Str) : strSub (a ++ b) a.length (a ++ b).length = b := by
  apply sgn_ext
  rw [show sgn (strSub (a ++ b) a.length (a ++ b).length) = _ from StrLaws.strSub_toList _ _ _]
  rw [show (a ++ b).cps.toList = sgn a ++ sgn b from sgn_app a b]
  have : (sgn a ++ sgn b).drop a.length = sgn b := by rw [← sgn_len a, List.drop_left]
  rw [this]
  refine List.take_of_length_le ?_
  rw [sgn_len, Str.length_append]
  omega
/-- a ++ y ++ b, cut at y: y has a sign at o that is not in a and not in b's part that could begin another place -/
theorem partition_is {a y b : Str} {o c : Nat} (ho : (sgn y)[o]? = some c) (only : ∀ i, (sgn (a ++ y ++ b))[i]? = some c → i = a.length + o) : Txt.partition (a ++ y ++ b) y = (a, y, b) := by
  have hoy : o < y.length := by
    have := (List.getElem?_eq_some_iff.mp ho).1
    rw [sgn_len] at this
    exact this
  have hocc : occurrences (a ++ y ++ b) y 0 (a ++ y ++ b).length 1 = [a.length] := by
    refine occ_is (by omega) (by simp) ⟨Nat.zero_le _, ?_, subAt_mid a y b, trivial⟩ fun i _ hs => ?_
    · rw [Str.length_append, Str.length_append]; omega
    · have := subAt_get hs hoy
      rw [ho] at this
      have := only _ this
      exact List.mem_singleton.mpr (by omega)
  unfold Txt.partition
  rw [hocc]
  have e1 : strSub (a ++ y ++ b) 0 a.length = a := by
    have := sub_left a (y ++ b)
    rw [show a ++ (y ++ b) = a ++ y ++ b from sgn_ext (by rw [sgn_app, sgn_app, sgn_app, sgn_app, List.append_assoc])] at this
    exact this
  have e2 : strSub (a ++ y ++ b) (a.length + y.length) (a ++ y ++ b).length = b := by
    have := sub_right (a ++ y) b
    rw [Str.length_append] at this
    exact this
  show (strSub (a ++ y ++ b) 0 a.length, y, strSub (a ++ y ++ b) (a.length + y.length) (a ++ y ++ b).length) = _
  rw [e1, e2]
theorem partition_none {a y : Str} {o c : Nat} (ho : (sgn y)[o]? = some c) (no : c ∉ sgn a) : Txt.partition a y = (a, Str.empty, Str.empty) := by
  have hoy : o < y.length := by
    have := (List.getElem?_eq_some_iff.mp ho).1
    rw [sgn_len] at this
    exact this
  have hocc : occurrences a y 0 a.length 1 = [] := by
    refine occ_is (by omega) (Nat.zero_le _) trivial fun i _ hs => ?_
    have := subAt_get hs hoy
    rw [ho] at this
    exact absurd (List.mem_of_getElem? this) no
  unfold Txt.partition
  rw [hocc]
end Mint


namespace Mint
open PySem PySem.Spec PyProof.Rows L2
open PySem.Builtin.Str (subAt strSub occurrences partsBetween strKind)

/-! ### what was joined is split again -/
theorem app_assoc (a b c : Str) : a ++ b ++ c = a ++ (b ++ c) := sgn_ext (by rw [sgn_app, sgn_app, sgn_app, sgn_app, List.append_assoc])
def cutsOf (w : Nat) : Nat → List Str → List Nat
  | _, [] => []
  | _, [_] => []
  | a, x :: y :: r => (a + x.length) :: cutsOf w (a + x.length + w) (y :: r)
theorem cuts_len (w : Nat) : ∀ (a : Nat) (l : List Str), (cutsOf w a l).length ≤ l.length
  | _, [] => Nat.zero_le _
  | _, [_] => Nat.zero_le _
  | a, x :: y :: r => by
    have := cuts_len w (a + x.length + w) (y :: r)
    show _ + 1 ≤ (y :: r).length + 1
    omega
theorem join_two (y x z : Str) (r : List Str) : Str.join y (x :: z :: r) = x ++ y ++ Str.join y (z :: r) := rfl
/-- y's places in pre ++ the joined items -/
theorem places_join {y : Str} : ∀ (l : List Str) (pre : Str), Places (pre ++ Str.join y l) y pre.length (cutsOf y.length pre.length l)
  | [], _ => trivial
  | [_], _ => trivial
  | x :: z :: r, pre => by
    have ih := places_join (y := y) (z :: r) (pre ++ x ++ y)
    have e : pre ++ x ++ y ++ Str.join y (z :: r) = pre ++ Str.join y (x :: z :: r) := by
      rw [join_two, app_assoc, app_assoc, app_assoc]
    have l1 : (pre ++ x ++ y).length = pre.length + x.length + y.length := by rw [Str.length_append, Str.length_append]
    rw [e, l1] at ih
    refine ⟨Nat.le_add_right _ _, ?_, ?_, ih⟩
    · rw [← e, Str.length_append, l1]
      exact Nat.le_add_right _ _
    · have := subAt_mid (pre ++ x) y (Str.join y (z :: r))
      rw [e, Str.length_append] at this
      exact this
theorem parts_join {y : Str} : ∀ (l : List Str) (pre : Str), l ≠ [] → StrLaws.partsFrom (pre ++ Str.join y l) y.length pre.length (cutsOf y.length pre.length l) = l
  | [], _, h => absurd rfl h
  | [x], pre, _ => by
    show [strSub (pre ++ x) pre.length (pre ++ x).length] = [x]
    rw [sub_right]
  | x :: z :: r, pre, _ => by
    have ih := parts_join (y := y) (z :: r) (pre ++ x ++ y) (by simp)
    have e : pre ++ x ++ y ++ Str.join y (z :: r) = pre ++ Str.join y (x :: z :: r) := by
      rw [join_two, app_assoc, app_assoc, app_assoc]
    have l1 : (pre ++ x ++ y).length = pre.length + x.length + y.length := by rw [Str.length_append, Str.length_append]
    rw [e, l1] at ih
    show strSub (pre ++ Str.join y (x :: z :: r)) pre.length (pre.length + x.length) :: StrLaws.partsFrom _ y.length (pre.length + x.length + y.length) (cutsOf y.length (pre.length + x.length + y.length) (z :: r)) = _
    rw [ih]
    congr 1
    apply sgn_ext
    rw [show sgn (strSub _ _ _) = _ from StrLaws.strSub_toList _ _ _, ← e]
    rw [show (pre ++ x ++ y ++ Str.join y (z :: r)).cps.toList = (sgn pre ++ (sgn x ++ (sgn y ++ sgn (Str.join y (z :: r))))) by
      show sgn _ = _
      rw [sgn_app, sgn_app, sgn_app, List.append_assoc, List.append_assoc]]
    rw [← sgn_len pre, List.drop_left, show (sgn pre).length + x.length - (sgn pre).length = (sgn x).length by rw [sgn_len x]; omega, List.take_left]
/-- where y's sign c stands: only in the y's -/
theorem only_join {y : Str} {o c : Nat} (once : ∀ j, (sgn y)[j]? = some c → j = o) : ∀ (l : List Str) (pre : Str), (∀ x ∈ l, c ∉ sgn x) → c ∉ sgn pre → ∀ i, (sgn (pre ++ Str.join y l))[i + o]? = some c → i ∈ cutsOf y.length pre.length l
  | [], pre, _, hp, i, h => by
    exfalso
    have e : sgn (pre ++ Str.join y []) = sgn pre := by
      rw [sgn_app]
      show sgn pre ++ [] = _
      rw [List.append_nil]
    rw [e] at h
    exact hp (List.mem_of_getElem? h)
  | [x], pre, hl, hp, i, h => by
    exfalso
    have e : sgn (pre ++ Str.join y [x]) = sgn pre ++ sgn x := sgn_app pre x
    rw [e] at h
    rcases List.mem_append.mp (List.mem_of_getElem? h) with h | h
    · exact hp h
    · exact hl x List.mem_cons_self h
  | x :: z :: r, pre, hl, hp, i, h => by
    have e : sgn (pre ++ Str.join y (x :: z :: r)) = (sgn pre ++ sgn x) ++ (sgn y ++ sgn (Str.join y (z :: r))) := by
      rw [join_two, sgn_app, sgn_app, sgn_app, List.append_assoc, List.append_assoc]
    have lp : (sgn pre ++ sgn x).length = pre.length + x.length := by rw [List.length_append, sgn_len, sgn_len]
    have np : c ∉ sgn pre ++ sgn x := fun z' => by
      rcases List.mem_append.mp z' with z' | z'
      · exact hp z'
      · exact hl x List.mem_cons_self z'
    rw [e] at h
    rcases Nat.lt_or_ge (i + o) (pre.length + x.length) with h1 | h1
    · rw [List.getElem?_append_left (by rw [lp]; exact h1)] at h
      exact absurd (List.mem_of_getElem? h) np
    · rw [List.getElem?_append_right (by rw [lp]; exact h1), lp] at h
      rcases Nat.lt_or_ge (i + o - (pre.length + x.length)) y.length with h2 | h2
      · rw [List.getElem?_append_left (by rw [sgn_len]; exact h2)] at h
        have := once _ h
        refine List.mem_cons.mpr (.inl ?_)
        omega
      · rw [List.getElem?_append_right (by rw [sgn_len]; exact h2), sgn_len] at h
        refine List.mem_cons.mpr (.inr ?_)
        -- behind the first separator: as if it began there, with a front without c
        have key := only_join once (z :: r) ⟨(Array.replicate (pre.length + x.length + y.length) (c + 1))⟩ (fun w hw => hl w (List.mem_cons_of_mem _ hw)) (fun hz => by
          have : c = c + 1 := by
            have hz' : c ∈ (Array.replicate (pre.length + x.length + y.length) (c + 1)).toList := hz
            simp at hz'
          omega) i
        have lf : (⟨(Array.replicate (pre.length + x.length + y.length) (c + 1))⟩ : Str).length = pre.length + x.length + y.length := by
          show (Array.replicate _ _).size = _
          simp
        rw [lf] at key
        refine key ?_
        rw [sgn_app, List.getElem?_append_right (by rw [sgn_len, lf]; omega), sgn_len, lf, ← h]
        congr 1
        omega
theorem split_is {y : Str} {o c : Nat} {l : List Str} (hne : l ≠ []) (hk : strKind y = 1) (ho : (sgn y)[o]? = some c) (once : ∀ j, (sgn y)[j]? = some c → j = o) (no : ∀ x ∈ l, c ∉ sgn x) : Txt.split (Str.join y l) y = l := by
  have hoy : o < y.length := by
    have := (List.getElem?_eq_some_iff.mp ho).1
    rw [sgn_len] at this
    exact this
  have pj := places_join (y := y) l Str.empty
  have em : Str.empty ++ Str.join y l = Str.join y l := sgn_ext (by rw [sgn_app]; rfl)
  have el : Str.empty.length = 0 := rfl
  rw [em, el] at pj
  have oj := only_join (y := y) once l Str.empty no (by show c ∉ ([] : List Nat); simp)
  rw [em, el] at oj
  have lj : ∀ l : List Str, l ≠ [] → l.length ≤ (Str.join y l).length + 1 := by
    intro l
    induction l with
    | nil => intro h; exact absurd rfl h
    | cons x r ih =>
      intro _
      cases r with
      | nil => exact Nat.le_add_left _ _
      | cons z r =>
        have := ih (by simp)
        rw [join_two, Str.length_append, Str.length_append, List.length_cons]
        omega
  have occ : occurrences (Str.join y l) y 0 (Str.join y l).length ((Str.join y l).length + 1) = cutsOf y.length 0 l :=
    occ_is (by omega) (Nat.le_trans (cuts_len _ _ _) (lj l hne)) pj fun i _ hs => oj i (by rw [subAt_get hs hoy, ho])
  have pa := parts_join (y := y) l Str.empty hne
  rw [em, el] at pa
  unfold Txt.split
  rw [occ]
  by_cases h1 : (Str.join y l).length < y.length
  · rw [if_pos (by rw [decide_eq_true h1]; rfl)]
    match l, hne with
    | [x], _ => rfl
    | x :: z :: r, _ =>
      rw [join_two, Str.length_append, Str.length_append] at h1
      omega
  · have h2 : ¬ strKind (Str.join y l) < strKind y := by
      have := PyProof.Rows.strKind_pos (Str.join y l)
      omega
    rw [if_neg (by rw [decide_eq_false h1, decide_eq_false h2]; simp)]
    match l, hne with
    | [x], _ => rfl
    | x :: z :: r, _ =>
      rw [if_neg (by show ¬ (List.isEmpty (_ :: _)) = true; simp), StrLaws.partsBetween_eq]
      exact pa
end Mint


namespace Mint
open PySem PySem.Spec PyProof.Rows L2 PySem.NumText

/-! ### numbers as texts -/
def numS (n : Nat) : Str := Str.ofString (toString (n : Int))
theorem numS_sgn (n : Nat) : sgn (numS n) = (Nat.toDigits 10 n).map Char.toNat := PySem.W.KIN.signs_num n
theorem numS_digits (n : Nat) : AllDigits (sgn (numS n)) := by
  intro c hc
  rw [numS_sgn] at hc
  obtain ⟨ch, hch, e⟩ := List.mem_map.mp hc
  have h := Nat.isDigit_of_mem_toDigits (by decide) (by decide) hch
  rw [← e]
  unfold Char.isDigit at h
  simp only [Bool.and_eq_true, decide_eq_true_eq] at h
  obtain ⟨h1, h2⟩ := h
  exact ⟨h1, h2⟩
theorem numS_ne (n : Nat) : sgn (numS n) ≠ [] := by
  rw [numS_sgn]
  intro e
  have h := tDigits_len_ge 10 n
  rw [List.map_eq_nil_iff.mp e] at h
  exact absurd h (by decide)
theorem numS_len {n : Nat} (h : n ≤ 10 ^ 30) : (numS n).length ≤ 31 := by
  rw [← sgn_len, numS_sgn, List.length_map]
  refine digits10_le (k := 31) (by decide) (Nat.lt_of_le_of_lt h (by decide))
theorem numS_len_le {n m : Nat} (h : n ≤ m) : (numS n).length ≤ (numS m).length := by
  rw [← sgn_len, ← sgn_len, numS_sgn, numS_sgn, List.length_map, List.length_map]
  rcases Nat.eq_zero_or_pos n with z | z
  · subst z
    exact tDigits_len_ge 10 m
  · have hl := tDigits_len_ge 10 n
    obtain ⟨k, hk⟩ : ∃ k, (Nat.toDigits 10 n).length = k + 1 := ⟨(Nat.toDigits 10 n).length - 1, by omega⟩
    rw [hk]
    have : 10 ^ k ≤ n := by
      rcases Nat.lt_or_ge n (10 ^ k) with h' | h'
      · exfalso
        rcases Nat.eq_zero_or_pos k with z2 | z2
        · subst z2
          simp at h'
          omega
        · have := digits10_le z2 h'
          omega
      · exact h'
    exact digits10_ge (Nat.le_trans this h)
theorem numS_back {n : Nat} (h : (numS n).length ≤ 640) : PySem.intText? (numS n) = some (n : Int) := by
  have e := intText_digits (numS_digits n) (numS_ne n) (Nat.le_trans h (by decide))
  rw [show (numS n).cps.toList = (Nat.toDigits 10 n).map Char.toNat from numS_sgn n, PySem.W.KIN.val_back] at e
  exact e
/-- no zero ahead -/
theorem toDigits_head : ∀ n : Nat, 0 < n → ∃ c r, Nat.toDigits 10 n = c :: r ∧ c.toNat ≠ 48 := by
  intro n
  induction n using Nat.strongRecOn with
  | _ n ih =>
    intro h0
    by_cases h : n < 10
    · rw [Nat.toDigits_of_lt_base h]
      refine ⟨_, _, rfl, ?_⟩
      have : ∀ d : Fin 10, 0 < d.val → (Nat.digitChar d.val).toNat ≠ 48 := by decide
      exact this ⟨n, h⟩ h0
    · have t : Nat.toDigits 10 (n / 10) ++ Nat.toDigits 10 (n % 10) = Nat.toDigits 10 (10 * (n / 10) + n % 10) := Nat.toDigits_append_toDigits (by decide) (by omega) (Nat.mod_lt n (by decide))
      rw [Nat.div_add_mod] at t
      obtain ⟨c, r, e, hc⟩ := ih (n / 10) (by omega) (by omega)
      exact ⟨c, r ++ Nat.toDigits 10 (n % 10), by rw [← t, e]; rfl, hc⟩
theorem numS_head {n : Nat} (h : 0 < n) : ∃ c r, sgn (numS n) = c :: r ∧ c ≠ 48 := by
  obtain ⟨c, r, e, hc⟩ := toDigits_head n h
  exact ⟨c.toNat, r.map Char.toNat, by rw [numS_sgn, e]; rfl, hc⟩
theorem numS_zero : numS 0 = Str.ofString "0" := by decide +kernel
theorem numS_inj {n m : Nat} (h : numS n = numS m) : n = m := by
  have e := congrArg sgn h
  rw [numS_sgn, numS_sgn] at e
  rw [← PySem.W.KIN.val_back n, ← PySem.W.KIN.val_back m, e]
end Mint


namespace Mint
open PySem PySem.Spec PyProof.Rows L2
open PySem.Builtin.Str

/-! ### sep.join(reversed(a list of texts)) -/
theorem gives_made {x : Str} : ∀ ps : List (Str × Tok), tooLong ((ps.map (·.1)).toArray.foldl (· + ·.length + x.length) 0) = false → Gives (joinTail x (strValues ps)) (joinMade x ps)
  | [], o => gives_joinTail x [] o
  | [p], o => gives_joinTail x [p] o
  | p :: q :: r, o => gives_joinTail x (p :: q :: r) o
section
variable {prog : Program} {w : World} {A : Around} {E : Value → Shared → Prop} {s : Shared}
theorem join_rev {x : Str} {t : Tok} {ys : List Str} {it l : Addr} {items : Array Value} {Q : Value → Shared → Prop} (hh : A.handled = none) (hit : s.heap.IsRevIter it l ((items.size : Int) - 1)) (hl : s.heap.IsList l items) (hne : l ≠ it) (hn : items.size ≤ sizeLine)
    (hP : ∀ acc : Array Value, ItemsOf (fun i v => items[items.size - 1 - i]? = some v) acc items.size → StrsAre acc.toList ys) (hok : (ys.map (·.length)).sum + ys.length * x.length ≤ 16777216)
    (hq : ∀ (h' : Heap) (tk : Nat), (∀ b o, b ≠ it → s.heap.get? b = some o → h'.get? b = some o) → ∀ t' k, Q (.str (Txt.join x ys) t') { s with heap := h', toks := k }) :
    wpAny (model prog w) A (call (.builtin "str.join") [.str x t, .ref it]) Q E s := by
  have ty : s.TypeIs (.ref it) "list_reverseiterator" := hit.typeIs
  have h1 : A.in1.handled = none := hh
  refine wpAny_call ?_
  refine codeAny_call_builtin PySem.F.slot_str_join.plain PySem.F.entry_str_join (PySem.F.slot_str_join.check _ _ _ _ _ _ _ _ (typeIs_str _ _ _) (PySem.F.args_str_join_2 _ _) ?_)
  rw [join_tree_other]
  refine wpAny_bind (wpAny_typeOf ty ?_)
  rw [if_neg (by decide)]
  refine wpAny_bind (wpAny_tryCatch (wpAny_pyIter_revIter hit ?_))
  refine wpAny_bind (RT.collect_rev h1 hit hl hne hn fun h' tk acc hk hacc => ?_)
  obtain ⟨ps, hps, hys⟩ := strsAre_values (hP acc hacc)
  rw [hps]
  have ok := joinOk_of hok
  rw [← hys] at ok hq
  have ok2 : tooLong ((ps.map (·.1)).toArray.foldl (· + ·.length + x.length) 0) = false := by
    unfold JoinOk at ok
    rwa [Bool.not_eq_true'] at ok
  exact gives_made ps ok2 prog w A (wants Q E) _ (post_join ps ⟨joinFit_length ok2, fun t' k => hq h' tk hk t' k⟩)
end
/-- sep.join(reversed(xs)), xs a list of texts -/
def tJoinRev (K : PySem.W.Frag) (to te : TE) : TE := fun σ H Q => to σ H fun x H1 => (∃ a, x = .str a) ∧ te σ H1 fun v H2 => ∃ (a : Str) (q : Addr) (ys : List Str),
  x = .str a ∧ v = .ref q ∧ SqL K H2 q (ys.map V.str) ∧ (ys.map (·.length)).sum + ys.length * a.length ≤ 16777216 ∧ Q (.str (Txt.join a ys.reverse)) H2
section
variable {X : Cx}
theorem pe_joinRev {o e : Expr} {to te : TE} {apos pos p pos2 : Pos} (hc : X.calm = true) (ho : PE X o to) (hg : Gl X "reversed") (hm : X.mg "reversed" = none) (he : PE X e te)
    (hs1 : starEach [.Call (.Name "reversed" p) [e] [] pos2] X.env = [(false, eval (.Call (.Name "reversed" p) [e] [] pos2) X.env)] := by rfl) (hs : starEach [e] X.env = (false, eval e X.env) :: starEach [] X.env := by rfl)
    (hbase : attributeBase o "join" X.env (eval o X.env) = eval o X.env := by rfl) (hline : (apos.endLine == pos.line) = true := by rfl) :
    PE X (.Call (.Attribute o "join" apos) [.Call (.Name "reversed" p) [e] [] pos2] [] pos) (tJoinRev X.K to te) := by
  refine ⟨fun pins s σ H Q I h => ?_⟩
  refine PySem.Call_method1 hbase hs1 hline (thn (ho.run pins s σ H _ I h) fun v s1 hv => ?_)
  obtain ⟨x, H1, I1, r1, ⟨a, rfl⟩, q1⟩ := hv
  obtain ⟨t, rfl⟩ := _root_.id r1
  refine ⟨"str", _, F.plainAttrs_str, F.slot_str_join, F.type_str_join, typeIs_str _ _ _, (fun _ z => nomatch z), Calls.callWith_builtin rfl (Calls.evalArgs_plain (Calls.spliced_cons ?_))⟩
  refine Call_ (ld_blt I1 hg hm PyProof.Rows.boot_reversed (PyProof.Rows.callWith_type1 (args_cons (thn (he.run pins s1 σ H1 _ I1 q1) fun u s2 hu => args_nil ?_) hs) hs rfl))
  obtain ⟨y, H2, I2, r2, a', q, ys, ea, rfl, hq, hz, fin⟩ := hu
  cases ea
  obtain rfl : u = Value.ref q := r2
  obtain ⟨its, rv, pl, hsz⟩ := I2.list hq
  refine call_reversed_list pl.isList (Calls.spliced_nil ?_)
  have I3 : Inv X pins σ H2 { s2 with heap := s2.heap.push (revObj q ((its.toArray.size : Int) - 1)) } := I2.kept (t' := s2.toks) fun b ob z => Heap.get?_push_of_some _ z
  obtain ⟨f0, f1, f2, f3, f4, f5⟩ := I2.fpOk (H' := H2) (b := s2.heap.objs.size) (Nat.le_refl _) (I2.hok.fresh (Nat.le_refl _))
  obtain ⟨ol, hol, _⟩ := id pl.isList
  have len : its.toArray.size ≤ sizeLine := by
    rw [List.size_toArray, ← rv.length]
    exact hsz
  refine join_rev (s := { s2 with heap := s2.heap.push (revObj q ((its.toArray.size : Int) - 1)) }) (ys := ys.reverse) (I2.ok.hd hc) ⟨_, Heap.get?_push_size _ rfl, rfl, rfl⟩ (pl.isList.push _) (Nat.ne_of_lt (Heap.lt_size hol)) len (fun acc ha => ?_) ?_ fun h' tk hk t' k => ?_
  · have z := RT.vals_rev rv ha
    rw [← List.map_reverse] at z
    exact strs_of_vals z
  · rw [List.map_reverse, List.sum_reverse, List.length_reverse]
    exact hz
  · exact ⟨.str _, H2, I3.turned (t' := k) (fun b ob hb z => hk b ob hb z) f0 f1 f3 f4 f5, ⟨t', rfl⟩, fin⟩
end
end Mint


namespace Mint
open PySem PySem.Spec PyProof.Rows L2 GxR Gx RZ

/-! ### print_number -/
structure Glb1 (K : PySem.W.Frag) (mg : Str → Option Value) : Prop where
  reversed : mg "reversed" = none
  any : mg "any" = none
  chunk : ∃ t, mg "CHUNK" = some (.int (10 ^ 512) t)
  digits : ∃ t, mg "DIGITS" = some (.str "0123456789" t)
  mostNumber : ∃ t, mg "MOST_NUMBER" = some (.int (10 ^ 30) t)
  endless : ∃ t, mg "ENDLESS" = some (.int (-1) t)
def tNever : TS := fun _ _ _ => False
theorem ps_never {X : Cx} {st : Stmt} : PS X st tNever := ⟨fun _ _ _ _ _ _ h => h.elim⟩
theorem pss_never {X : Cx} {ss : List Stmt} : PSs X ss tNever := ⟨fun _ _ _ _ _ _ h => h.elim⟩
def spPrintN : Sp := fun vs H Q _ => ∃ n : Nat, vs = [.int n] ∧ n ≤ 10 ^ 30 ∧ ∀ H', ExtP H H' → Q (.str (numS n)) H'
abbrev sPrintN : Stmt := top 7
theorem scPrintN : FnScope ["number", "chunks", "low"] ["number"] (defScope sPrintN) := ⟨rfl, rfl, rfl, by decide +kernel, rfl, by decide +kernel, by decide +kernel⟩
section
variable {P : Program} {w : World} {K : PySem.W.Frag} {mg : Str → Option Value} {base : Heap} {f T : Addr} {fd : FuncData}
theorem log2_small {n : Nat} (h : n ≤ 10 ^ 30) : ((n : Int)).natAbs.log2 < 1920 := by
  have e : ((n : Int)).natAbs = n := Int.natAbs_natCast n
  rw [e]
  rcases Nat.eq_zero_or_pos n with z | z
  · subst z; decide
  · exact (Nat.log2_lt (by omega)).mpr (Nat.lt_of_le_of_lt h (by decide +kernel))
theorem ok_printN (F : Fun K "print_number" "print_number" sPrintN f fd) (G : Glb mg) (G1 : Glb1 K mg) : FnOk P w K mg base CX0 1 f fd ["number"] spPrintN := by
  obtain ⟨t1, cChunk⟩ := G1.chunk
  refine F.ok scPrintN (fun vs H Q E h => ?_) (fun cdv A outer s H vs Q E hr h => ?_)
  · obtain ⟨n, rfl, _⟩ := h
    rfl
  obtain ⟨n, rfl, hn, q⟩ := h
  have nd := scPrintN.nd
  refine ⟨_, pss_cons (ps_set (i := 1) nd rfl (Or.inl rfl) (pe_lst pa_nil))
    (pss_cons (ps_while PassesOwn.never (pt_cmpR op_ge (pv 0) (pe_gI cChunk) (nomark _)) pss_never)
    (pss_cons (ps_expr (pe_bm PySem.F.plainAttrs_list PySem.F.slot_list_append PySem.F.type_list_append mt_append (pv 1) (pa_cons (pe_callTy call_str_int rfl G.str (by decide +kernel) (pa_cons (pv 0) pa_nil)) pa_nil)))
    (pss_one (ps_ret (pe_joinRev rfl pe_str rfl G1.reversed (pv 1)))))), ?_⟩
  refine ⟨Nat.zero_le _, fun l hl => ?_⟩
  refine ⟨fun _ σ' H' => σ' = [some (.int n), some (.ref l), none] ∧ H' = upd H l (.lst []), ⟨0, rfl, rfl⟩, fun m σ' H' hW => ?_⟩
  obtain ⟨e1, e2⟩ := hW
  subst e1 e2
  refine ⟨_, rfl, (n : Int), _, rfl, rfl, _, rfl, ?_⟩
  have hc : decide ((n : Int) ≥ (10 : Int) ^ 512) = false := by
    refine decide_eq_false fun z => ?_
    have : ((10 ^ 512 : Nat) : Int) ≤ (n : Int) := by
      rw [Int.natCast_pow]
      exact z
    have h2 : (10 ^ 512 : Nat) ≤ n := Int.ofNat_le.mp this
    exact absurd (Nat.le_trans h2 hn) (by decide +kernel)
  rw [hc]
  refine ⟨_, rfl, .inl ⟨rfl, _, SqL.of upd_same⟩, _, rfl, (n : Int), rfl, log2_small hn, l, [], .str (numS n), rfl, rfl, upd_same, (by show 0 < sizeLine; decide), ?_⟩
  refine ⟨⟨_, rfl⟩, _, rfl, Str.ofString "", l, [numS n], rfl, rfl, SqL.of upd_same, ?_, ?_⟩
  · show (numS n).length + 0 + 1 * (Str.ofString "").length ≤ 16777216
    have := numS_len hn
    have z0 : (Str.ofString "").length = 0 := by decide +kernel
    omega
  · refine q _ ?_
    exact ((Ext.refl true H).upd_new hl).upd_new hl
end
end Mint


namespace Mint
open PySem PySem.Spec PyProof.Rows L2 GxR Gx

/-! ### any(elt for x in iter), the element a look -/
theorem any_pure2 {P : Addr} {js : List (Option Nat)} {te : TE} {σ : L2.St} {H1 : Hp} {Qt Qf : Hp → Prop} {J : It} (n : Nat) (p : Nat → Bool) (rest : L2.St) (hσ : capt js σ = none :: rest) (hT : TabG H1 P)
    (hgo : ∀ i H', i < n → ExtP H1 H' → J.go i H') (hstop : ∀ H', ExtP H1 H' → J.stop n H')
    (hel : ∀ i H', i < n → ExtP H1 H' → ∀ x H'', J.yld i H' x H'' → H'' = H' ∧ ∀ Qe : VK, (∀ H3, ExtP H' H3 → Qe (.bl (p i)) H3) → te (some x :: rest) H' Qe)
    (hQt : ∀ H', ExtP H1 H' → (∃ i, i < n ∧ p i = true) → Qt H') (hQf : ∀ H', ExtP H1 H' → (∀ i, i < n → p i = false) → Qf H') :
    TabG H1 P ∧ ∀ H2, Tabbed P H1 H2 → ∃ W : Nat → Nat → L2.St → Hp → Prop, (∃ m, W 0 m (capt js σ) H2) ∧ ∀ i m σ' H', W i m σ' H' →
      (J.stop i H' ∧ Qf H') ∨ (J.go i H' ∧ 0 < m ∧ ∀ x H'', J.yld i H' x H'' → gName 0 x σ' H'' fun σ2 H3 => te σ2 H3 fun v H4 => ∃ c, v = .bl c ∧ if c = false then ∃ m', m' < m ∧ W (i + 1) m' σ2 H4 else Qt H4) := by
  refine ⟨hT, fun H2 ht => ⟨fun i m σ' H' => m = n - i ∧ i ≤ n ∧ ExtP H1 H' ∧ (∃ o, σ' = o :: rest) ∧ ∀ j, j < i → p j = false, ⟨n, rfl, Nat.zero_le _, .of_tabbed hT ht, ⟨none, hσ⟩, fun j hj => by omega⟩, ?_⟩⟩
  rintro i m σ' H' ⟨rfl, hi, e, ⟨o, rfl⟩, hp⟩
  rcases Nat.lt_or_ge i n with hlt | hge
  · refine .inr ⟨hgo i H' hlt e, by omega, fun x H'' hy => ?_⟩
    obtain ⟨rfl, q⟩ := hel i H' hlt e x H'' hy
    show te ((o :: rest).set 0 (some x)) H'' _
    refine q _ fun H3 e3 => ⟨p i, rfl, ?_⟩
    cases hpi : p i with
    | false =>
      rw [if_pos rfl]
      refine ⟨n - (i + 1), by omega, rfl, hlt, e.trans e3, ⟨some x, rfl⟩, fun j hj => ?_⟩
      rcases Nat.lt_or_ge j i with h | h
      · exact hp j h
      · rw [show j = i by omega]; exact hpi
    | true =>
      rw [if_neg (show ¬ true = false by decide)]
      exact hQt _ (e.trans e3) ⟨i, hlt, hpi⟩
  · have en : i = n := by omega
    subst en
    exact .inl ⟨hstop H' e, hQf H' e hp⟩
/-- over the signs of a text -/
theorem any_str2 {P : Addr} {js : List (Option Nat)} {te : TE} {σ : L2.St} {H1 : Hp} {Qt Qf : Hp → Prop} (x : Str) (f : Nat → Bool) (rest : L2.St) (hσ : capt js σ = none :: rest) (hT : TabG H1 P)
    (hel : ∀ c H', ExtP H1 H' → ∀ Qe : VK, (∀ H3, ExtP H' H3 → Qe (.bl (f c)) H3) → te (some (.str ⟨#[c]⟩) :: rest) H' Qe)
    (hQt : ∀ H', ExtP H1 H' → x.cps.toList.any f = true → Qt H') (hQf : ∀ H', ExtP H1 H' → x.cps.toList.any f = false → Qf H') :
    TabG H1 P ∧ ∀ H2, Tabbed P H1 H2 → ∃ W : Nat → Nat → L2.St → Hp → Prop, (∃ m, W 0 m (capt js σ) H2) ∧ ∀ i m σ' H', W i m σ' H' →
      ((Its x).stop i H' ∧ Qf H') ∨ ((Its x).go i H' ∧ 0 < m ∧ ∀ v H'', (Its x).yld i H' v H'' → gName 0 v σ' H'' fun σ2 H3 => te σ2 H3 fun v H4 => ∃ c, v = .bl c ∧ if c = false then ∃ m', m' < m ∧ W (i + 1) m' σ2 H4 else Qt H4) := by
  refine any_pure2 x.cps.toList.length (fun i => match x.cps.toList[i]? with | some c => f c | none => false) rest hσ hT (fun i H' hi e => ?_) (fun H' e => ?_) (fun i H' hi e v H'' hy => ?_) (fun H' e ⟨i, hi, hp⟩ => hQt H' e ?_) fun H' e hn => hQf H' e ?_
  · show i < x.cps.size
    simpa using hi
  · show x.cps.size ≤ x.cps.toList.length
    simp
  · obtain ⟨rfl, c, hc, rfl⟩ := hy
    refine ⟨rfl, fun Qe hq => hel c _ e Qe ?_⟩
    have e2 : x.cps.toList[i]? = some c := by rw [Array.getElem?_toList]; exact hc
    simp only [e2] at hq
    exact hq
  · have e2 : x.cps.toList[i]? = some x.cps.toList[i] := List.getElem?_eq_getElem hi
    simp only [e2] at hp
    exact List.any_eq_true.mpr ⟨_, List.getElem_mem hi, hp⟩
  · rw [List.any_eq_false]
    intro c hc
    obtain ⟨i, hi, ei⟩ := List.getElem_of_mem hc
    have e2 : x.cps.toList[i]? = some c := by rw [List.getElem?_eq_getElem hi, ei]
    have := hn i hi
    simp only [e2] at this
    rw [this]
    exact Bool.false_ne_true
end Mint


namespace Mint
open PySem PySem.Spec PyProof.Rows L2 GxR Gx Gy RZ

/-! ### read_number -/
def digS (c : Nat) : Bool := decide (48 ≤ c ∧ c ≤ 57)
def fReadN (x : Str) (most : Nat) : V :=
  if x.length = 0 ∨ (numS most).length < x.length then .non
  else if (sgn x).any (fun c => !digS c) = true then .non
  else if (sgn x)[0]? = some 48 ∧ x ≠ Str.ofString "0" then .non
  else if NumText.digitsVal (sgn x) ≤ most then .int (NumText.digitsVal (sgn x) : Nat) else .non
theorem numS_len40 {n : Nat} (h : n ≤ 10 ^ 40) : (numS n).length ≤ 41 := by
  rw [← sgn_len, numS_sgn, List.length_map]
  refine digits10_le (k := 41) (by decide) (Nat.lt_of_le_of_lt h (by decide))
theorem log2_40 {n : Nat} (h : n ≤ 10 ^ 40) : ((n : Int)).natAbs.log2 < 1920 := by
  have e : ((n : Int)).natAbs = n := Int.natAbs_natCast n
  rw [e]
  rcases Nat.eq_zero_or_pos n with z | z
  · subst z; decide
  · exact (Nat.log2_lt (by omega)).mpr (Nat.lt_of_le_of_lt h (by decide +kernel))
def spReadN (K : PySem.W.Frag) (Ps : List Addr) : Sp := fun vs H Q _ => ∃ (x : Str) (most : Nat), vs = [.str x, .int most] ∧ most ≤ 10 ^ 40 ∧ x.length ≤ sizeLine ∧ Tabs Ps H ∧ ∀ H', ExtP H H' → Q (fReadN x most) H'
abbrev sReadN : Stmt := top 8
theorem scReadN : FnScope ["word", "most", "number"] ["word", "most"] (defScope sReadN) := ⟨rfl, rfl, rfl, by decide +kernel, rfl, by decide +kernel, by decide +kernel⟩
section
variable {P : Program} {w : World} {K : PySem.W.Frag} {mg : Str → Option Value} {base : Heap} {f c T : Addr} {fd : FuncData}
theorem ok_readN (F : FunC K "read_number" "read_number" sReadN f fd c) (G : Glb mg) (G1 : Glb1 K mg) (TB : TabB base mg c T) : FnOk P w K mg base CX0 2 f fd ["word", "most"] (spReadN K [T]) := by
  obtain ⟨t1, cDig⟩ := G1.digits
  refine F.ok scReadN (fun vs H Q E h => ?_) (fun A outer s H vs Q E hr h => ?_)
  · obtain ⟨x, m, rfl, _⟩ := h
    rfl
  obtain ⟨x, m, rfl, hm, hx, hT, q⟩ := h
  have nd := scReadN.nd
  refine ⟨_, pss_cons (ps_if (PW.pt (pw_or (pt_cmpR op_eq (pv 0) pe_str (nomark _)) (pw_or1 (pt_cmpR op_gt (pe_callB call_len_str (by rfl) G.len PySem.boot_len (pa_cons (pv 0) pa_nil)) (pe_callB call_len_str (by rfl) G.len PySem.boot_len (pa_cons (pe_callTy call_str_int rfl G.str (by decide +kernel) (pa_cons (pv 1) pa_nil)) pa_nil)) (nomark _))))) (pss_one (ps_ret pe_non)) pss_nil)
    (pss_cons (ps_if (pt_val (pe_anyG (k := 0) (N := ["sign"]) (js := [none]) hr rfl G1.any TB rfl ⟨rfl, rfl, rfl, rfl, rfl, rfl⟩ (pi_str (pv 0)) (fun _ _ _ _ _ _ => pg_name (i := 0) (by show (["sign"] : List Str).Nodup; decide) rfl (Or.inl rfl))
      (fun _ _ _ _ _ _ _ => pe_cmpR op_notIn_sign (pv 0) (pe_gS cDig) rfl))) (pss_one (ps_ret pe_non)) pss_nil)
    (pss_cons (ps_if (PW.pt (pw_and (pt_cmpR op_eq (pe_item_str (pv 0) pe_int (fun _ _ => rfl)) pe_str (nomark _)) (pw_and1 (pt_cmpR op_ne (pv 0) pe_str (nomark _))))) (pss_one (ps_ret pe_non)) pss_nil)
    (pss_cons (ps_set (i := 2) nd rfl (Or.inl rfl) (pe_callTy call_int_str rfl G.int boot_int (pa_cons (pv 0) pa_nil)))
    (pss_one (ps_ret (pe_ifExp (pt_cmpR op_le (pv 2) (pv 1) (nomark _)) (pv 2) pe_non)))))), ?_⟩
  have q0 : ∀ H' v, ExtP H H' → fReadN x m = v → Q v H' := fun H' v e ev => by rw [← ev]; exact q H' e
  refine ⟨_, rfl, rfl, _, rfl, ?_⟩
  refine ite2 (fun c1 => ?_) (fun c1 => ?_)
  · have e1 : x = Str.ofString "" := V.str.inj (of_decide_eq_true c1)
    refine q0 H .non (Ext.refl true H) ?_
    unfold fReadN
    rw [if_pos (.inl (by rw [e1]; decide +kernel))]
  have x0 : x.length ≠ 0 := fun z => by
    refine absurd (show decide (V.str x = V.str (Str.ofString "")) = true from decide_eq_true (congrArg V.str (sgn_ext ?_))) c1
    rw [← sgn_len] at z
    rw [List.eq_nil_of_length_eq_zero z]
    decide +kernel
  have ll : sizeLine = 16777216 := sizeLine_eq
  have lm := numS_len40 hm
  refine ⟨_, rfl, x, rfl, hx, _, rfl, (m : Int), rfl, log2_40 hm, numS m, rfl, by omega, _, _, rfl, rfl, _, rfl, ?_⟩
  refine ite2 (fun c2 => ?_) (fun c2 => ?_)
  · have e2 : (x.length : Int) > (numS m).length := of_decide_eq_true c2
    refine q0 H .non (Ext.refl true H) ?_
    unfold fReadN
    rw [if_pos (.inr (by omega))]
  have x1 : ¬ (numS m).length < x.length := fun z => c2 (decide_eq_true (show (x.length : Int) > (numS m).length by omega))
  have dg : ∀ c : Nat, decide (c ∈ (Str.ofString "0123456789").cps.toList) = digS c := fun c => by
    have e : (Str.ofString "0123456789").cps.toList = [48, 49, 50, 51, 52, 53, 54, 55, 56, 57] := by decide +kernel
    rw [e]
    unfold digS
    rw [decide_eq_decide]
    simp only [List.mem_cons, List.not_mem_nil, or_false]
    omega
  refine ⟨_, rfl, x, rfl, ?_⟩
  refine any_str2 x (fun c => !digS c) [] rfl (hT T (by simp)) (fun c H' e Qe hq => ?_) (fun H' e ha => ?_) fun H' e ha => ?_
  · refine ⟨_, rfl, c, Str.ofString "0123456789", rfl, rfl, ?_⟩
    rw [dg c]
    exact hq H' (Ext.refl true H')
  · refine ⟨_, rfl, ?_⟩
    refine q0 H' .non e ?_
    unfold fReadN
    rw [if_neg (fun z => z.elim x0 x1), if_pos ha]
  · refine ⟨_, rfl, ?_⟩
    have ad : NumText.AllDigits (sgn x) := fun c hc => by
      have z := List.any_eq_false.mp ha c hc
      have z2 : digS c = true := by simpa using z
      exact of_decide_eq_true z2
    have nn : sgn x ≠ [] := fun z => x0 (by rw [← sgn_len, z]; rfl)
    obtain ⟨c0, cr, hc⟩ : ∃ c0 cr, sgn x = c0 :: cr := by
      cases hs : sgn x with
      | nil => exact absurd hs nn
      | cons a b => exact ⟨a, b, rfl⟩
    have h0 : x.cps[(0 : Int).toNat]? = some c0 := by
      rw [← Array.getElem?_toList, show x.cps.toList = sgn x from rfl, hc]
      rfl
    have lx : x.length ≤ 41 := by omega
    have rd : PySem.intText? x = some ((NumText.digitsVal (sgn x) : Nat) : Int) := PySem.intText_digits ad nn (Nat.le_trans lx (by decide))
    have na : ¬ ((sgn x).any (fun c => !digS c) = true) := fun z => by rw [ha] at z; cases z
    have yes : NumText.digitsVal (sgn x) ≤ m → (¬ ((sgn x)[0]? = some 48 ∧ x ≠ Str.ofString "0")) → Q (.int (NumText.digitsVal (sgn x) : Nat)) H' := fun hle hn => by
      refine q0 H' _ e ?_
      unfold fReadN
      rw [if_neg (fun z => z.elim x0 x1), if_neg na, if_neg hn, if_pos hle]
    have nay : ¬ NumText.digitsVal (sgn x) ≤ m → (¬ ((sgn x)[0]? = some 48 ∧ x ≠ Str.ofString "0")) → Q .non H' := fun hle hn => by
      refine q0 H' _ e ?_
      unfold fReadN
      rw [if_neg (fun z => z.elim x0 x1), if_neg na, if_neg hn, if_neg hle]
    refine ⟨_, rfl, x, 0, c0, rfl, rfl, Int.le_refl 0, by decide, by omega, h0, rfl, _, rfl, ?_⟩
    refine ite2 (fun c3 => ?_) (fun c3 => ?_)
    · refine ⟨_, rfl, rfl, _, rfl, ?_⟩
      have e3 : (⟨#[c0]⟩ : Str) = Str.ofString "0" := V.str.inj (of_decide_eq_true c3)
      have e4 : c0 = 48 := by
        have := congrArg sgn e3
        rw [show sgn (Str.ofString "0") = [48] by decide +kernel] at this
        exact (List.cons.inj this).1
      refine ite2 (fun c4 => ?_) (fun c4 => ?_)
      · refine q0 H' .non e ?_
        have ne : x ≠ Str.ofString "0" := fun z => by
          rw [z] at c4
          exact absurd (show (!decide (V.str (Str.ofString "0") = V.str (Str.ofString "0"))) = true from c4) (by decide +kernel)
        unfold fReadN
        rw [if_neg (fun z => z.elim x0 x1), if_neg na, if_pos ⟨by rw [hc, e4]; rfl, ne⟩]
      · have hn : ¬ ((sgn x)[0]? = some 48 ∧ x ≠ Str.ofString "0") := fun z => c4 (by
          show (!decide (V.str x = V.str (Str.ofString "0"))) = true
          rw [decide_eq_false (fun y => z.2 (V.str.inj y))]
          rfl)
        exact ⟨_, rfl, x, _, rfl, rd, by omega, _, rfl, _, rfl, _, _, rfl, rfl, _, rfl, ite2 (fun c5 => ⟨_, rfl, yes (Int.ofNat_le.mp (of_decide_eq_true c5)) hn⟩) fun c5 => nay (fun z => c5 (decide_eq_true (Int.ofNat_le.mpr z))) hn⟩
    · have hn : ¬ ((sgn x)[0]? = some 48 ∧ x ≠ Str.ofString "0") := fun z => c3 (by
        have e5 : c0 = 48 := by
          have := z.1
          rw [hc] at this
          exact Option.some.inj this
        rw [e5]
        exact decide_eq_true (congrArg V.str (show (⟨#[48]⟩ : Str) = Str.ofString "0" by decide +kernel)))
      exact ⟨_, rfl, x, _, rfl, rd, by omega, _, rfl, _, rfl, _, _, rfl, rfl, _, rfl, ite2 (fun c5 => ⟨_, rfl, yes (Int.ofNat_le.mp (of_decide_eq_true c5)) hn⟩) fun c5 => nay (fun z => c5 (decide_eq_true (Int.ofNat_le.mpr z))) hn⟩
end
end Mint


namespace Mint
open PySem PySem.Spec PyProof.Rows L2 GxR Gx RZ

theorem readN_num {n m : Nat} (h : n ≤ m) : fReadN (numS n) m = .int (n : Nat) := by
  have hl := numS_len_le h
  have hn := numS_ne n
  have hd := numS_digits n
  have e1 : ¬ ((numS n).length = 0 ∨ (numS m).length < (numS n).length) := fun z => by
    rcases z with z | z
    · rw [← sgn_len] at z
      exact hn (List.eq_nil_of_length_eq_zero z)
    · omega
  have e2 : ¬ ((sgn (numS n)).any (fun c => !digS c) = true) := fun z => by
    obtain ⟨c, hc, z⟩ := List.any_eq_true.mp z
    have := hd c hc
    unfold digS at z
    rw [decide_eq_true this] at z
    cases z
  have e3 : ¬ ((sgn (numS n))[0]? = some 48 ∧ numS n ≠ Str.ofString "0") := fun z => by
    rcases Nat.eq_zero_or_pos n with h0 | h0
    · subst h0
      exact z.2 numS_zero
    · obtain ⟨c, r, e, hc⟩ := numS_head h0
      rw [e] at z
      exact hc (Option.some.inj z.1)
  have e4 : NumText.digitsVal (sgn (numS n)) = n := by rw [numS_sgn, PySem.W.KIN.val_back]
  unfold fReadN
  rw [if_neg e1, if_neg e2, if_neg e3, e4, if_pos h]

/-! ### print_items, print_entry, print_range -/
def itemsS (xs : List Str) : Str := if xs = [] then Str.ofString "nothing" else Txt.join (Str.ofString " + ") xs
def entryS (e : Int) : Str := if e = -1 then Str.ofString "endless" else numS e.toNat
def rangeS (lo hi : Nat) : Str := if lo = hi then numS hi else numS lo ++ Str.ofString ".." ++ numS hi
def okE (e : Int) : Prop := e = -1 ∨ (0 ≤ e ∧ e ≤ 10 ^ 30)
def spEntryP : Sp := fun vs H Q _ => ∃ e : Int, vs = [.int e] ∧ okE e ∧ ∀ H', ExtP H H' → Q (.str (entryS e)) H'
def spRangeP : Sp := fun vs H Q _ => ∃ lo hi : Nat, vs = [.int lo, .int hi] ∧ lo ≤ 10 ^ 30 ∧ hi ≤ 10 ^ 30 ∧ ∀ H', ExtP H H' → Q (.str (rangeS lo hi)) H'
def spItemsP (K : PySem.W.Frag) : Sp := fun vs H Q _ => ∃ (a : Addr) (xs : List Str), vs = [.ref a] ∧ SqL K H a (xs.map V.str) ∧ xs.length ≤ 1000 ∧ (∀ x ∈ xs, x.length ≤ 1000) ∧ ∀ H', ExtP H H' → Q (.str (itemsS xs)) H'
abbrev sItemsP : Stmt := top 17
abbrev sEntryP : Stmt := top 18
theorem scItemsP : FnScope ["items"] ["items"] (defScope sItemsP) := ⟨rfl, rfl, rfl, by decide +kernel, rfl, by decide +kernel, by decide +kernel⟩
theorem scEntryP : FnScope ["entry"] ["entry"] (defScope sEntryP) := ⟨rfl, rfl, rfl, by decide +kernel, rfl, by decide +kernel, by decide +kernel⟩
section
variable {P : Program} {w : World} {K : PySem.W.Frag} {mg : Str → Option Value} {base : Heap} {f c T : Addr} {fd : FuncData}
theorem ok_entryP (F : Fun K "print_entry" "print_entry" sEntryP f fd) (G1 : Glb1 K mg) (DP : Def P w K mg base "print_number" 1 ["number"] spPrintN) : FnOk P w K mg base CX0 2 f fd ["entry"] spEntryP := by
  obtain ⟨t1, cEnd⟩ := G1.endless
  refine F.ok scEntryP (fun vs H Q E h => ?_) (fun cdv A outer s H vs Q E hr h => ?_)
  · obtain ⟨e, rfl, _⟩ := h
    rfl
  obtain ⟨e, rfl, he, q⟩ := h
  refine ⟨_, pss_one (ps_ret (pe_ifExp (pt_cmpR op_eq (pv 0) (pe_gI cEnd) (nomark _)) pe_str (pe_c DP hr (pa_cons (pv 0) pa_nil)))), ?_⟩
  refine ⟨_, rfl, rfl, _, rfl, ?_⟩
  refine ite2 (fun c1 => ?_) (fun c1 => ?_)
  · have e1 : e = -1 := V.int.inj (of_decide_eq_true c1)
    have := q H (Ext.refl true H)
    unfold entryS at this
    rw [if_pos e1] at this
    exact this
  · have e1 : ¬ e = -1 := fun z => c1 (decide_eq_true (congrArg V.int z))
    unfold entryS at q
    rw [if_neg e1] at q
    rcases he with z | ⟨h0, h1⟩
    · exact absurd z e1
    · obtain ⟨n, rfl⟩ := Int.eq_ofNat_of_zero_le h0
      exact ⟨_, rfl, n, rfl, by omega, q⟩
theorem ok_itemsP (F : Fun K "print_items" "print_items" sItemsP f fd) : FnOk P w K mg base CX0 1 f fd ["items"] (spItemsP K) := by
  refine F.ok scItemsP (fun vs H Q E h => ?_) (fun cdv A outer s H vs Q E hr h => ?_)
  · obtain ⟨a, xs, rfl, _⟩ := h
    rfl
  obtain ⟨a, xs, rfl, hS, hl, hx, q⟩ := h
  refine ⟨_, pss_one (ps_ret (pe_ifExp (pt_truth (pv 0) (by intro _; rfl)) (pe_join pe_str (pv 0)) pe_str)), ?_⟩
  refine ⟨_, rfl, !(xs.map V.str).isEmpty, .inl ⟨_, hS, rfl⟩, ?_⟩
  cases xs with
  | nil => exact q H (Ext.refl true H)
  | cons x r =>
    have l3 : (Str.ofString " + ").length = 3 := by decide +kernel
    have sum : ∀ l : List Str, (∀ x ∈ l, x.length ≤ 1000) → (l.map (·.length)).sum ≤ l.length * 1000 := by
      intro l
      induction l with
      | nil => intro _; exact Nat.le_refl _
      | cons a b ih =>
        intro h
        have h1 := h a List.mem_cons_self
        have h2 := ih fun y hy => h y (List.mem_cons_of_mem _ hy)
        rw [List.map_cons, List.sum_cons, List.length_cons]
        omega
    have hs := sum (x :: r) hx
    refine ⟨⟨_, rfl⟩, _, rfl, Str.ofString " + ", a, x :: r, rfl, rfl, .inl hS, ?_, ?_⟩
    · rw [l3]
      omega
    · have := q H (Ext.refl true H)
      unfold itemsS at this
      rw [if_neg (by simp)] at this
      exact this
end
end Mint


namespace Mint
open PySem PySem.Spec PyProof.Rows L2 GxR Gx RZ

/-! ### print_stock -/
def stockItems : List Str → List Int → List Str
  | k :: ks, e :: es => if e = 0 then stockItems ks es else (entryS e ++ Str.ofString " " ++ k) :: stockItems ks es
  | _, _ => []
def stockS (ks : List Str) (es : List Int) : Str := itemsS (stockItems ks es)
def spStockP (K : PySem.W.Frag) : Sp := fun vs H Q _ => ∃ (b v : V) (kn : List Str) (ms : List PyData) (es : List Int), vs = [b, v] ∧ Dp K H b (bookD (kn.map PyData.str) ms) ∧ Dp K H v (intsD es) ∧ es.length = kn.length ∧ kn.length ≤ 1000 ∧ (∀ k ∈ kn, k.length ≤ 12) ∧ (∀ e ∈ es, okE e) ∧ ∀ H', ExtP H H' → Q (.str (stockS kn es)) H'
def teStock : TE := fun σ H Q => tJs [tFmt (tCall spEntryP [] E0 (tCons (tVar 3) tNil)), tC (.str (Str.ofString " ")), tFmt (tVar 2)] Str.empty σ H fun out H1 => Q (.str out) H1
abbrev sStockP : Stmt := top 16
theorem scStockP : FnScope ["book", "stock", "kind", "entry"] ["book", "stock"] (defScope sStockP) := ⟨rfl, rfl, rfl, by decide +kernel, rfl, by decide +kernel, by decide +kernel⟩
theorem entry_len {e : Int} (h : okE e) : (entryS e).length ≤ 31 := by
  unfold entryS
  rcases h with h | ⟨h0, h1⟩
  · rw [if_pos h]; decide +kernel
  · rw [if_neg (by omega)]
    exact numS_len (by omega)
theorem stock_take : ∀ (ks : List Str) (es : List Int) (i : Nat), stockItems (ks.take i) (es.take i) = stockItems (ks.take i) (es.take i) := fun _ _ _ => rfl
theorem stock_snoc : ∀ (ks : List Str) (es : List Int) (k : Str) (e : Int), ks.length = es.length → stockItems (ks ++ [k]) (es ++ [e]) = stockItems ks es ++ (if e = 0 then [] else [entryS e ++ Str.ofString " " ++ k])
  | [], [], k, e, _ => by
    show (if e = 0 then stockItems [] [] else _ :: stockItems [] []) = [] ++ _
    by_cases h : e = 0
    · rw [if_pos h, if_pos h]; rfl
    · rw [if_neg h, if_neg h]; rfl
  | a :: ks, b :: es, k, e, h => by
    have ih := stock_snoc ks es k e (by simpa using h)
    show (if b = 0 then stockItems (ks ++ [k]) (es ++ [e]) else _ :: stockItems (ks ++ [k]) (es ++ [e])) = (if b = 0 then stockItems ks es else _ :: stockItems ks es) ++ _
    by_cases h : b = 0
    · rw [if_pos h, if_pos h, ih]
    · rw [if_neg h, if_neg h, ih]; rfl
theorem stock_len : ∀ (ks : List Str) (es : List Int), (stockItems ks es).length ≤ ks.length
  | [], [] => Nat.zero_le _
  | [], _ :: _ => Nat.zero_le _
  | _ :: _, [] => Nat.zero_le _
  | k :: ks, e :: es => by
    have ih := stock_len ks es
    show (if e = 0 then stockItems ks es else _ :: stockItems ks es).length ≤ ks.length + 1
    by_cases h : e = 0
    · rw [if_pos h]; omega
    · rw [if_neg h, List.length_cons]; omega
theorem stock_small : ∀ (ks : List Str) (es : List Int), (∀ k ∈ ks, k.length ≤ 12) → (∀ e ∈ es, okE e) → ∀ x ∈ stockItems ks es, x.length ≤ 1000
  | [], [], _, _, x, hx => by cases hx
  | [], _ :: _, _, _, x, hx => by cases hx
  | _ :: _, [], _, _, x, hx => by cases hx
  | k :: ks, e :: es, hk, he, x, hx => by
    have ih := stock_small ks es (fun y hy => hk y (List.mem_cons_of_mem _ hy)) (fun y hy => he y (List.mem_cons_of_mem _ hy)) x
    have hx' : x ∈ (if e = 0 then stockItems ks es else (entryS e ++ Str.ofString " " ++ k) :: stockItems ks es) := hx
    by_cases h : e = 0
    · rw [if_pos h] at hx'; exact ih hx'
    · rw [if_neg h] at hx'
      rcases List.mem_cons.mp hx' with z | z
      · have h1 := entry_len (he e List.mem_cons_self)
        have h2 := hk k List.mem_cons_self
        have h3 : (Str.ofString " ").length = 1 := by decide +kernel
        rw [z, Str.length_append, Str.length_append]
        omega
      · exact ih z
theorem dps_strs {K : PySem.W.Frag} {H : Hp} : ∀ (l : List Str) {xs : List V}, DpAll K H xs (l.map PyData.str) → xs = l.map V.str
  | [], _, h => by cases h; rfl
  | x :: r, _, h => by
    cases h with
    | cons a t =>
      cases a
      rw [dps_strs r t]
      rfl
theorem dps_ints {K : PySem.W.Frag} {H : Hp} : ∀ (l : List Int) {xs : List V}, DpAll K H xs (l.map PyData.int) → xs = l.map V.int
  | [], _, h => by cases h; rfl
  | x :: r, _, h => by
    cases h with
    | cons a t =>
      cases a
      rw [dps_ints r t]
      rfl
theorem dp_tup_invI {K : PySem.W.Frag} {H : Hp} {v : V} {ds : List PyData} (h : Dp K H v (.tuple ds)) : ∃ a xs, v = .ref a ∧ SqT K H a xs ∧ DpAll K H xs ds := by
  cases h with
  | @tup a xs _ hS hD => exact ⟨a, xs, rfl, hS, hD⟩
section
variable {P : Program} {w : World} {K : PySem.W.Frag} {mg : Str → Option Value} {base : Heap} {f c T : Addr} {fd : FuncData}
theorem ok_stockP (F : Fun K "print_stock" "print_stock" sStockP f fd) (G : Glb mg) (DE : Def P w K mg base "print_entry" 2 ["entry"] spEntryP) (DI : Def P w K mg base "print_items" 1 ["items"] (spItemsP K)) : FnOk P w K mg base CX0 3 f fd ["book", "stock"] (spStockP K) := by
  refine F.ok scStockP (fun vs H Q E h => ?_) (fun cdv A outer s H vs Q E hr h => ?_)
  · obtain ⟨b, v, kn, ms, es, rfl, _⟩ := h
    rfl
  obtain ⟨b, v, kn, ms, es, rfl, hb, hv, hlen, h1000, hk, he, q⟩ := h
  obtain ⟨a, a1, a2, x1, x2, rfl, hS, s1, d1, s2, d2⟩ := book_parts hb
  obtain ⟨av, xv, rfl, sv, dv⟩ := dp_tup_invI hv
  have nd := scStockP.nd
  refine ⟨_, pss_one (ps_ret (pe_c DI (hr.mono (by decide)) (pa_cons (pe_lc (own := [("kind", 2), ("entry", 3)]) (g := L2.gTup K 2 (gCons (gName 2) (gCons (gName 3) gNil))) (te := teStock) rfl nd
    (pi_zipA rfl G.zip (pa_cons (pe_ix ix_tup (pv 0) pe_int (fun _ _ => rfl)) (pa_cons (pv 1) pa_nil))) (blkOk_by (own := [("kind", 2), ("entry", 3)]) (N := ["book", "stock", "kind", "entry"]) (sc := defScope sStockP) (by decide +kernel))
    (fun _ _ _ _ _ => pg_tup (n := 2) (by rfl) (pgs_cons (pg_name (i := 2) nd rfl (Or.inl rfl)) (pgs_cons (pg_name (i := 3) nd rfl (Or.inl rfl)) pgs_nil)))
    (fun _ _ _ _ _ => pts_one (pt_cmpR op_ne (pv 3) pe_int (nomark _)))
    (fun _ _ _ _ _ => pe_joined (.cons (pe_fmt (pe_c DE hr (pa_cons (pv 3) pa_nil))) (.cons pe_str (.cons (pe_fmt (pv 2)) .nil))))) pa_nil))), ?_⟩
  have ex1 := dps_strs kn d1
  have exv := dps_ints es dv
  subst ex1 exv
  have em : ∀ x : Str, Str.empty ++ x = x := fun x => sgn_ext (by rw [sgn_app]; rfl)
  have ll : sizeLine = 16777216 := sizeLine_eq
  have l1 : (Str.ofString " ").length = 1 := by decide +kernel
  refine ⟨_, rfl, a, [.ref a1, .ref a2], 0, .ref a1, rfl, rfl, hS, atI_nat (xs := [V.ref a1, V.ref a2]) (j := 0) rfl, _, rfl, a1, av, _, _, rfl, .inr ⟨s1, sv, fun D hD => ?_⟩⟩
  refine lc_zipT (xs := kn.map V.str) (ys := es.map V.int) (by rw [List.length_map, List.length_map, hlen]) (fun i H' => ExtP H H' ∧ H' D = some (.lst ((stockItems (kn.take i) (es.take i)).map V.str))) ⟨Ext.new hD _, upd_same⟩ (fun i H' _ p => ⟨p.1.sqT s1, p.1.sqT sv⟩) (fun i x y T' H' hx hy ⟨p1, p2⟩ hT' => ?_) fun H' ⟨p1, p2⟩ => ?_
  · rw [List.getElem?_map, Option.map_eq_some_iff] at hx hy
    obtain ⟨k, hk', rfl⟩ := hx
    obtain ⟨e, he', rfl⟩ := hy
    have e5 : ExtP H (upd H' T' (.tup [.str k, .int e])) := p1.trans (Ext.new hT' _)
    have hDT : D ≠ T' := ne_of_none p2 hT'
    have p3 := (upd_ne (H := H') (o := .tup [.str k, .int e]) hDT).trans p2
    have hi : i < kn.length := (List.getElem?_eq_some_iff.mp hk').1
    have hsn : stockItems (kn.take (i + 1)) (es.take (i + 1)) = stockItems (kn.take i) (es.take i) ++ (if e = 0 then [] else [entryS e ++ Str.ofString " " ++ k]) := by
      rw [List.take_add_one, List.take_add_one, hk', he']
      exact stock_snoc _ _ k e (by rw [List.length_take, List.length_take, hlen])
    have oe := he e (List.mem_of_getElem? he')
    have ok := hk k (List.mem_of_getElem? hk')
    have le := entry_len oe
    refine ⟨T', _, rfl, SqT.of upd_same, rfl, .str k, [.int e], rfl, .int e, [], rfl, rfl, rfl, _, rfl, rfl, _, rfl, ?_⟩
    by_cases hz : e = 0
    · have c : (!decide (V.int e = V.int 0)) = false := by rw [hz]; decide
      rw [c]
      refine iteF ?_
      rw [if_pos hz, List.append_nil] at hsn
      exact ⟨e5, by rw [hsn]; exact p3⟩
    · have c : (!decide (V.int e = V.int 0)) = true := by rw [decide_eq_false (fun z => hz (V.int.inj z))]; rfl
      rw [c]
      refine iteT ?_
      rw [if_neg hz] at hsn
      refine ⟨_, rfl, e, rfl, oe, fun H3 e6 => .inl ⟨_, rfl, by omega, _, rfl, ?_, _, rfl, ?_, _, rfl, .inl ⟨k, rfl, by omega, _, rfl, ?_, _, e6.obj _ _ rfl p3, ?_, (e5.trans e6).upd_new hD, ?_⟩⟩⟩
      · rw [em]; omega
      · rw [em, Str.length_append]; omega
      · rw [em, Str.length_append, Str.length_append]; omega
      · rw [List.length_map]
        have := stock_len (kn.take i) (es.take i)
        rw [List.length_take] at this
        exact small1000 (by omega)
      · rw [upd_same, hsn, List.map_append, em]
        rfl
  · rw [List.length_map, List.take_length, ← hlen, List.take_length] at p2
    exact ⟨D, stockItems kn es, rfl, SqL.of p2, Nat.le_trans (stock_len kn es) h1000, stock_small kn es hk he, fun H2 e2 => q H2 (p1.trans e2)⟩
end
end Mint


namespace Mint
open PySem PySem.Spec PyProof.Rows L2 GxR Gx RZ

/-! ### word_at -/
/-- how many signs of a name stand from at on -/
def runLen (x : Str) (at_ : Nat) : Nat := (((sgn x).drop at_).takeWhile okSign).length
def wordS (x : Str) (at_ : Nat) : Str := ⟨(((sgn x).drop at_).takeWhile okSign).toArray⟩
def spWord : Sp := fun vs H Q _ => ∃ (x : Str) (at_ : Nat), vs = [.str x, .int at_] ∧ at_ ≤ x.length ∧ x.length ≤ sizeLine ∧ ∀ H', ExtP H H' → Q (.str (wordS x at_)) H'
abbrev sWord : Stmt := top 29
theorem scWord : FnScope ["text", "at", "end"] ["text", "at"] (defScope sWord) := ⟨rfl, rfl, rfl, by decide +kernel, rfl, by decide +kernel, by decide +kernel⟩
theorem takeWhile_get (p : Nat → Bool) : ∀ (l : List Nat) (k c : Nat), k < (l.takeWhile p).length → l[k]? = some c → p c = true
  | [], k, c, h, _ => by simp at h
  | a :: l, k, c, h, hc => by
    cases ha : p a with
    | true =>
      rw [List.takeWhile_cons_of_pos ha, List.length_cons] at h
      cases k with
      | zero =>
        have : a = c := Option.some.inj hc
        rw [← this]; exact ha
      | succ k => exact takeWhile_get p l k c (by omega) (by simpa using hc)
    | false =>
      rw [List.takeWhile_cons_of_neg (by rw [ha]; exact Bool.false_ne_true)] at h
      simp at h
theorem takeWhile_stop (p : Nat → Bool) : ∀ (l : List Nat) (c : Nat), l[(l.takeWhile p).length]? = some c → p c = false
  | [], c, h => by simp at h
  | a :: l, c, h => by
    cases ha : p a with
    | true =>
      rw [List.takeWhile_cons_of_pos ha, List.length_cons] at h
      exact takeWhile_stop p l c (by simpa using h)
    | false =>
      have e : (a :: l).takeWhile p = [] := List.takeWhile_cons_of_neg (by rw [ha]; exact Bool.false_ne_true)
      rw [e] at h
      have : a = c := Option.some.inj h
      rw [← this]; exact ha
theorem takeWhile_take (p : Nat → Bool) (l : List Nat) : l.take (l.takeWhile p).length = l.takeWhile p := by
  obtain ⟨t, ht⟩ := List.takeWhile_prefix (l := l) p
  have : l.take (l.takeWhile p).length = (l.takeWhile p ++ t).take (l.takeWhile p).length := by rw [ht]
  rw [this, List.take_left]
section
variable {P : Program} {w : World} {K : PySem.W.Frag} {mg : Str → Option Value} {base : Heap} {f c T : Addr} {fd : FuncData}
theorem ok_word (F : Fun K "word_at" "word_at" sWord f fd) (G : Glb mg) (C : Cst K mg) : FnOk P w K mg base CX0 1 f fd ["text", "at"] spWord := by
  obtain ⟨t2, cSigns⟩ := C.signs
  refine F.ok scWord (fun vs H Q E h => ?_) (fun cdv A outer s H vs Q E hr h => ?_)
  · obtain ⟨x, a, rfl, _⟩ := h
    rfl
  obtain ⟨x, a, rfl, ha, hx, q⟩ := h
  have nd := scWord.nd
  have ll : sizeLine = 16777216 := sizeLine_eq
  refine ⟨_, pss_cons (ps_set (i := 2) nd rfl (Or.inl rfl) (pv 1))
    (pss_cons (ps_while PassesOwn.never (PW.pt (pw_and (pt_cmpR op_lt (pv 2) (pe_callB call_len_str (by rfl) G.len PySem.boot_len (pa_cons (pv 0) pa_nil)) (nomark _)) (pw_and1 (pt_cmpR op_in_sign (pe_item_str (pv 0) (pv 2) (fun _ _ => rfl)) (pe_gS cSigns) rfl))))
      (pss_one (ps_aug (i := 2) nd rfl (Or.inl rfl) pe_int ip_add)))
    (pss_one (ps_ret (pe_slice sl_str (pv 0) (po_some (pv 1)) (po_some (pv 2)))))), ?_⟩
  refine ⟨_, rfl, ?_⟩
  have lr : a + runLen x a ≤ x.length := by
    have h1 : runLen x a ≤ ((sgn x).drop a).length := (List.takeWhile_prefix (l := (sgn x).drop a) okSign).length_le
    rw [List.length_drop, sgn_len] at h1
    omega
  refine ⟨fun m σ' H' => ∃ k : Nat, k ≤ runLen x a ∧ m = runLen x a - k ∧ σ' = [some (.str x), some (.int a), some (.int ((a + k : Nat) : Int))] ∧ H' = H, ⟨runLen x a, 0, Nat.zero_le _, rfl, rfl, rfl⟩, fun m σ' H' hW => ?_⟩
  obtain ⟨k, hk, rfl, rfl, rfl⟩ := hW
  refine ⟨_, rfl, _, rfl, x, rfl, hx, _, _, rfl, rfl, _, rfl, ?_⟩
  -- what stands behind the run
  have fin : k = runLen x a → ∀ Q' : VK, Q' (.str (wordS x a)) H' → Q' (.str (cutS x (some (a : Int)) (some ((a + k : Nat) : Int)))) H' := fun e Q' h => by
    have : cutS x (some (a : Int)) (some ((a + k : Nat) : Int)) = wordS x a := by
      unfold cutS wordS
      rw [HT.sIx_nat, HT.sIx_nat, Nat.min_eq_left ha, Nat.min_eq_left (by omega), show a + k - a = runLen x a by omega]
      exact congrArg (fun l : List Nat => (⟨l.toArray⟩ : Str)) (takeWhile_take okSign ((sgn x).drop a))
    rw [this]
    exact h
  refine ite2 (fun c1 => ?_) (fun c1 => ?_)
  · have c2 : a + k < x.length := Int.ofNat_lt.mp (of_decide_eq_true c1)
    have hg : a + k < (sgn x).length := by rw [sgn_len]; exact c2
    obtain ⟨c0, hc0⟩ : ∃ c0, (sgn x)[a + k]? = some c0 := ⟨_, List.getElem?_eq_getElem hg⟩
    have hgt : x.cps[((a + k : Nat) : Int).toNat]? = some c0 := by
      rw [Int.toNat_natCast, ← Array.getElem?_toList]
      exact hc0
    have hd : ((sgn x).drop a)[k]? = some c0 := by rw [List.getElem?_drop, hc0]
    refine ⟨_, rfl, _, rfl, x, ((a + k : Nat) : Int), _, rfl, rfl, by omega, by omega, Int.ofNat_lt.mpr c2, hgt, _, signsS, rfl, rfl, _, rfl, ?_⟩
    refine ite2 (fun c3 => ?_) (fun c3 => ?_)
    · have c4 : okSign c0 = true := c3
      have lt : k < runLen x a := by
        rcases Nat.lt_or_ge k (runLen x a) with h | h
        · exact h
        · have e : k = runLen x a := by omega
          rw [e] at hd
          have := takeWhile_stop okSign ((sgn x).drop a) c0 hd
          rw [this] at c4
          cases c4
      refine ⟨fun σ2 H2 => σ2 = [some (.str x), some (.int a), some (.int ((a + (k + 1) : Nat) : Int))] ∧ H2 = H', fun σ2 H2 h2 => ⟨runLen x a - (k + 1), by omega, k + 1, lt, rfl, h2.1, h2.2⟩, ?_⟩
      refine ⟨_, rfl, _, _, rfl, rfl, ?_, rfl⟩
      show [some (V.str x), some (.int a), some (.int (((a + k : Nat) : Int) + 1))] = _
      have : ((a + k : Nat) : Int) + 1 = ((a + (k + 1) : Nat) : Int) := by omega
      rw [this]
    · have e : k = runLen x a := by
        rcases Nat.lt_or_ge k (runLen x a) with h | h
        · exact absurd (takeWhile_get okSign ((sgn x).drop a) k _ h hd) c3
        · omega
      refine ⟨_, rfl, _, rfl, _, rfl, _, rfl, _, rfl, x, rfl, hx, ?_⟩
      exact fin e Q (q H' (Ext.refl true H'))
  · have e : k = runLen x a := by
      have : ¬ a + k < x.length := fun z => c1 (decide_eq_true (Int.ofNat_lt.mpr z))
      omega
    refine ⟨_, rfl, _, rfl, _, rfl, _, rfl, _, rfl, x, rfl, hx, ?_⟩
    exact fin e Q (q H' (Ext.refl true H'))
end
end Mint


namespace Mint
open PySem PySem.Spec PyProof.Rows L2 GxR Gx RZ

/-! ### _law_word, _law_range -/
def lawWord (e : Int) : Str := if e = 0 then Str.ofString "" else entryS e
def lawRange (lo hi : Nat) : Str := if hi = 0 then Str.ofString "" else rangeS lo hi
def spWordL : Sp := fun vs H Q _ => ∃ e : Int, vs = [.int e] ∧ okE e ∧ ∀ H', ExtP H H' → Q (.str (lawWord e)) H'
def spRangeL : Sp := fun vs H Q _ => ∃ lo hi : Nat, vs = [.int lo, .int hi] ∧ lo ≤ 10 ^ 30 ∧ hi ≤ 10 ^ 30 ∧ ∀ H', ExtP H H' → Q (.str (lawRange lo hi)) H'
section
variable {P : Program} {w : World} {K : PySem.W.Frag} {mg : Str → Option Value} {base : Heap} {f c T : Addr} {fd : FuncData}
end
end Mint


namespace Mint
open PySem PySem.Spec PyProof.Rows L2 GxR Gx RZ

/-! ### read_range -/
theorem readN_cases (x : Str) (m : Nat) : fReadN x m = .non ∨ ∃ n : Nat, n ≤ m ∧ fReadN x m = .int n := by
  unfold fReadN
  by_cases h1 : x.length = 0 ∨ (numS m).length < x.length
  · exact .inl (if_pos h1)
  · rw [if_neg h1]
    by_cases h2 : (sgn x).any (fun c => !digS c) = true
    · exact .inl (if_pos h2)
    · rw [if_neg h2]
      by_cases h3 : (sgn x)[0]? = some 48 ∧ x ≠ Str.ofString "0"
      · exact .inl (if_pos h3)
      · rw [if_neg h3]
        by_cases h4 : NumText.digitsVal (sgn x) ≤ m
        · exact .inr ⟨_, h4, if_pos h4⟩
        · exact .inl (if_neg h4)
def pairOf : V → V → Option (Int × Int)
  | .int l, .int h => if l ≥ h then none else some (l, h)
  | _, _ => none
def oneOf : V → Option (Int × Int)
  | .int l => if l = 0 then none else some (l, l)
  | _ => none
def fRange (x : Str) (m : Nat) : Option (Int × Int) :=
  if x = Str.ofString "endless" then some (-1, -1)
  else if (Txt.partition x (Str.ofString "..")).2.1 = Str.ofString "" then oneOf (fReadN (Txt.partition x (Str.ofString "..")).1 m)
  else pairOf (fReadN (Txt.partition x (Str.ofString "..")).1 m) (fReadN (Txt.partition x (Str.ofString "..")).2.2 m)
def Ranged (K : PySem.W.Frag) (H : Hp) (v : V) : Option (Int × Int) → Prop
  | none => v = .non
  | some (l, h) => ∃ p, v = .ref p ∧ SqT K H p [.int l, .int h]
def spRange (K : PySem.W.Frag) (Ps : List Addr) : Sp := fun vs H Q _ => ∃ (x : Str) (m : Nat), vs = [.str x, .int m] ∧ m ≤ 10 ^ 30 ∧ x.length ≤ sizeLine ∧ Tabs Ps H ∧ ∀ H' v, ExtP H H' → Ranged K H' v (fRange x m) → Q v H'
abbrev sRange : Stmt := top 25
theorem scRange : FnScope ["word", "most", "low_word", "dots", "high_word", "low", "high"] ["word", "most"] (defScope sRange) := ⟨rfl, rfl, rfl, by decide +kernel, rfl, by decide +kernel, by decide +kernel⟩
section
variable {P : Program} {w : World} {K : PySem.W.Frag} {mg : Str → Option Value} {base : Heap} {f c T : Addr} {fd : FuncData}
theorem ok_range (F : Fun K "read_range" "read_range" sRange f fd) (G1 : Glb1 K mg) (DR : Def P w K mg base "read_number" 2 ["word", "most"] (spReadN K [T])) : FnOk P w K mg base CX0 3 f fd ["word", "most"] (spRange K [T]) := by
  obtain ⟨t1, cEnd⟩ := G1.endless
  refine F.ok scRange (fun vs H Q E h => ?_) (fun cdv A outer s H vs Q E hr h => ?_)
  · obtain ⟨x, m, rfl, _⟩ := h
    rfl
  obtain ⟨x, m, rfl, hm, hx, hT, q⟩ := h
  have nd := scRange.nd
  refine ⟨_, pss_cons (ps_if (pt_cmpR op_eq (pv 0) pe_str (nomark _)) (pss_one (ps_ret (pe_tup (pa_cons (pe_gI cEnd) (pa_cons (pe_gI cEnd) pa_nil))))) pss_nil)
    (pss_cons (ps_asg (pe_partition (pv 0) pe_str) (pg_tup (n := 3) (by rfl) (pgs_cons (pg_name (i := 2) nd rfl (Or.inl rfl)) (pgs_cons (pg_name (i := 3) nd rfl (Or.inl rfl)) (pgs_cons (pg_name (i := 4) nd rfl (Or.inl rfl)) pgs_nil)))))
    (pss_cons (ps_set (i := 5) nd rfl (Or.inl rfl) (pe_c DR hr (pa_cons (pv 2) (pa_cons (pv 1) pa_nil))))
    (pss_cons (ps_if (pt_cmpR op_eq (pv 3) pe_str (nomark _)) (pss_one (ps_ret (pe_ifExp (PW.pt (pw_or (pt_cmpR op_isN (pv 5) pe_non (nomark _)) (pw_or1 (pt_cmpR op_eq (pv 5) pe_int (nomark _))))) pe_non (pe_tup (pa_cons (pv 5) (pa_cons (pv 5) pa_nil)))))) pss_nil)
    (pss_cons (ps_set (i := 6) nd rfl (Or.inl rfl) (pe_c DR hr (pa_cons (pv 4) (pa_cons (pv 1) pa_nil))))
    (pss_cons (ps_if (PW.pt (pw_or (pt_cmpR op_isN (pv 5) pe_non (nomark _)) (pw_or (pt_cmpR op_isN (pv 6) pe_non (nomark _)) (pw_or1 (pt_cmpR op_ge (pv 5) (pv 6) (nomark _)))))) (pss_one (ps_ret pe_non)) pss_nil)
    (pss_one (ps_ret (pe_tup (pa_cons (pv 5) (pa_cons (pv 6) pa_nil)))))))))), ?_⟩
  have tb : ∀ {H' : Hp}, ExtP H H' → Tabs [T] H' := fun e => e.tabs hT
  refine ⟨_, rfl, rfl, _, rfl, ?_⟩
  refine ite2 (fun c1 => ?_) (fun c1 => ?_)
  · have e1 : x = Str.ofString "endless" := V.str.inj (of_decide_eq_true c1)
    refine ⟨(by show 2 ≤ sizeLine; decide), fun p hp => q _ _ (Ext.new hp _) ?_⟩
    unfold fRange
    rw [if_pos e1]
    exact ⟨p, rfl, SqT.of upd_same⟩
  have n1 : ¬ x = Str.ofString "endless" := fun z => c1 (decide_eq_true (congrArg V.str z))
  refine ⟨_, rfl, ⟨_, rfl⟩, x, Str.ofString "..", rfl, rfl, by decide +kernel, hx, fun p hp => ?_⟩
  obtain ⟨a, hea⟩ : ∃ a, a = (Txt.partition x (Str.ofString "..")).1 := ⟨_, rfl⟩
  obtain ⟨b, heb⟩ : ∃ b, b = (Txt.partition x (Str.ofString "..")).2.1 := ⟨_, rfl⟩
  obtain ⟨c', hec⟩ : ∃ c', c' = (Txt.partition x (Str.ofString "..")).2.2 := ⟨_, rfl⟩
  have sum := StrLaws.partition_sum x (Str.ofString "..")
  have len : x.length = a.length + b.length + c'.length := by
    rw [← sum, Str.length_append, Str.length_append, ← hea, ← heb, ← hec]
  have fr : fRange x m = if b = Str.ofString "" then oneOf (fReadN a m) else pairOf (fReadN a m) (fReadN c' m) := by
    unfold fRange
    rw [if_neg n1, ← hea, ← heb, ← hec]
  rw [fr] at q
  rw [← hea, ← heb, ← hec]
  have e1 : ExtP H (upd H p (.tup [.str a, .str b, .str c'])) := Ext.new hp _
  refine ⟨p, [.str a, .str b, .str c'], rfl, SqT.of upd_same, rfl, _, _, rfl, _, _, rfl, _, _, rfl, rfl, ?_⟩
  refine ⟨_, rfl, _, rfl, a, m, rfl, (Nat.le_trans hm (by decide)), by omega, tb e1, fun H2 e2 => ?_⟩
  have e12 := e1.trans e2
  refine ⟨_, rfl, rfl, _, rfl, ?_⟩
  refine ite2 (fun c2 => ?_) (fun c2 => ?_)
  · have b0 : b = Str.ofString "" := V.str.inj (of_decide_eq_true c2)
    rw [if_pos b0] at q
    rcases readN_cases a m with hn | ⟨n, hnm, hn⟩
    · rw [hn] at q ⊢
      refine ⟨_, rfl, rfl, _, rfl, ?_⟩
      exact q H2 _ e12 rfl
    · rw [hn] at q ⊢
      refine ⟨_, rfl, rfl, _, rfl, ?_⟩
      refine ⟨_, rfl, rfl, _, rfl, ?_⟩
      refine ite2 (fun c3 => ?_) (fun c3 => ?_)
      · have n0 : (n : Int) = 0 := V.int.inj (of_decide_eq_true c3)
        refine q H2 _ e12 ?_
        show Ranged K H2 .non (if (n : Int) = 0 then none else some ((n : Int), (n : Int)))
        rw [if_pos n0]
        rfl
      · have n0 : ¬ (n : Int) = 0 := fun z => c3 (decide_eq_true (congrArg V.int z))
        refine ⟨_, rfl, _, rfl, (by show 2 ≤ sizeLine; decide), fun r hr' => q _ _ (e12.trans (Ext.new hr' _)) ?_⟩
        show Ranged K _ (.ref r) (if (n : Int) = 0 then none else some ((n : Int), (n : Int)))
        rw [if_neg n0]
        exact ⟨r, rfl, SqT.of upd_same⟩
  · have b0 : ¬ b = Str.ofString "" := fun z => c2 (decide_eq_true (congrArg V.str z))
    rw [if_neg b0] at q
    refine ⟨_, rfl, _, rfl, c', m, rfl, (Nat.le_trans hm (by decide)), by omega, tb e12, fun H3 e3 => ?_⟩
    have e13 := e12.trans e3
    rcases readN_cases a m with hn | ⟨n, hnm, hn⟩
    · rw [hn] at q ⊢
      refine ⟨_, rfl, rfl, _, rfl, ?_⟩
      exact q H3 _ e13 rfl
    · rw [hn] at q ⊢
      refine ⟨_, rfl, rfl, _, rfl, ?_⟩
      rcases readN_cases c' m with hk | ⟨k, hkm, hk⟩
      · rw [hk] at q ⊢
        refine ⟨_, rfl, rfl, _, rfl, ?_⟩
        exact q H3 _ e13 rfl
      · rw [hk] at q ⊢
        refine ⟨_, rfl, rfl, _, rfl, ?_⟩
        refine ⟨_, rfl, _, rfl, _, _, rfl, rfl, _, rfl, ?_⟩
        refine ite2 (fun c4 => ?_) (fun c4 => ?_)
        · have ge : (n : Int) ≥ (k : Int) := of_decide_eq_true c4
          refine q H3 _ e13 ?_
          show Ranged K H3 .non (if (n : Int) ≥ (k : Int) then none else some ((n : Int), (k : Int)))
          rw [if_pos ge]
          rfl
        · have ge : ¬ (n : Int) ≥ (k : Int) := fun z => c4 (decide_eq_true z)
          refine ⟨_, rfl, _, rfl, (by show 2 ≤ sizeLine; decide), fun r hr' => q _ _ (e13.trans (Ext.new hr' _)) ?_⟩
          show Ranged K _ (.ref r) (if (n : Int) ≥ (k : Int) then none else some ((n : Int), (k : Int)))
          rw [if_neg ge]
          exact ⟨r, rfl, SqT.of upd_same⟩
end
end Mint


namespace Fw
open PySem PySem.Spec PyProof.Rows L2 GxR Gx Gy RZ Mint
/-! ### what was shown of single defs, said of data -/
section
variable {P : Program} {w : World} {K : PySem.W.Frag} {mg : Str → Option Value} {base : Heap} {f T : Addr} {fd : FuncData} {Ps : List Addr} {k : Nat} {ps : List Str}
theorem Reps.keep {H H1 : Hp} (kk : Kp F0 H H1) : ∀ {vs : List V} {cs : List (Cn K)} {Ls : List (List Addr)}, Reps K H vs cs Ls → Reps K H1 vs cs Ls
  | _, _, _, .nil => .nil
  | _, _, _, .cons h t => .cons (h.keep (fun _ _ z => z) kk) (t.keep kk)
theorem bridge {sp : Sp} {g : GF K} (F : FnOk P w K mg base CX0 k f fd ps sp) (h : ∀ vs H Q E cs Ls Q', Reps K H vs cs Ls → Tabs Ps H → g cs Q' → (∀ v H' x, ExtP H H' → Fz K H' v x → Q' (.d x) cs → Q v H') → sp vs H Q E) : FnOk P w K mg base CX0 k f fd ps (spA K Ps g) :=
  F.imp fun vs H Q E ⟨cs, Ls, Q', hR, hdj, ht, hg, q⟩ => h vs H Q E cs Ls Q' hR ht hg fun v H' x e hz hq => q v H' (.d x) cs [] (.of_ext e) (hR.keep (.of_ext e)) ⟨hz, rfl⟩ (fun a z => nomatch z) hq
def vD : V → PyData
  | .int i => .int i
  | .str z => .str z
  | .bl b => .bool b
  | _ => .none
def rgD : Option (Int × Int) → PyData
  | some p => .tuple [.int p.1, .int p.2]
  | none => .none
def g_print_number : GF K := fun cs Q => ∃ n : Nat, cs = [.d (.int n)] ∧ n ≤ 10 ^ 30 ∧ Q (.d (.str (numS n))) cs
def g_read_number : GF K := fun cs Q => ∃ (x : Str) (m : Nat), cs = [.d (.str x), .d (.int m)] ∧ m ≤ 10 ^ 40 ∧ x.length ≤ sizeLine ∧ Q (.d (vD (fReadN x m))) cs
def g_print_entry : GF K := fun cs Q => ∃ e : Int, cs = [.d (.int e)] ∧ okE e ∧ Q (.d (.str (entryS e))) cs
def g_print_range : GF K := fun cs Q => ∃ lo hi : Nat, cs = [.d (.int lo), .d (.int hi)] ∧ lo ≤ 10 ^ 30 ∧ hi ≤ 10 ^ 30 ∧ Q (.d (.str (rangeS lo hi))) cs
def g_print_items : GF K := fun cs Q => ∃ xs : List Str, cs = [.l (xs.map PyData.str)] ∧ xs.length ≤ 1000 ∧ (∀ x ∈ xs, x.length ≤ 1000) ∧ Q (.d (.str (itemsS xs))) cs
def g_print_stock : GF K := fun cs Q => ∃ (kn : List Str) (ms : List PyData) (es : List Int), cs = [.d (bookD (kn.map PyData.str) ms), .d (iD es)] ∧ es.length = kn.length ∧ kn.length ≤ 1000 ∧ (∀ k ∈ kn, k.length ≤ 12) ∧ (∀ e ∈ es, okE e) ∧ Q (.d (.str (stockS kn es))) cs
def g_word_at : GF K := fun cs Q => ∃ (x : Str) (n : Nat), cs = [.d (.str x), .d (.int n)] ∧ n ≤ x.length ∧ x.length ≤ sizeLine ∧ Q (.d (.str (wordS x n))) cs
def g__law_word : GF K := fun cs Q => ∃ e : Int, cs = [.d (.int e)] ∧ okE e ∧ Q (.d (.str (lawWord e))) cs
def g__law_range : GF K := fun cs Q => ∃ lo hi : Nat, cs = [.d (.int lo), .d (.int hi)] ∧ lo ≤ 10 ^ 30 ∧ hi ≤ 10 ^ 30 ∧ Q (.d (.str (lawRange lo hi))) cs
def g_read_range : GF K := fun cs Q => ∃ (x : Str) (m : Nat), cs = [.d (.str x), .d (.int m)] ∧ m ≤ 10 ^ 30 ∧ x.length ≤ sizeLine ∧ Q (.d (rgD (fRange x m))) cs
theorem reps1 {H : Hp} {vs : List V} {c : Cn K} {Ls : List (List Addr)} (h : Reps K H vs [c] Ls) : ∃ v L, vs = [v] ∧ Rep K H v c L := by
  cases h with
  | cons r t => cases t; exact ⟨_, _, rfl, r⟩
theorem reps2 {H : Hp} {vs : List V} {c d : Cn K} {Ls : List (List Addr)} (h : Reps K H vs [c, d] Ls) : ∃ v u L L', vs = [v, u] ∧ Rep K H v c L ∧ Rep K H u d L' := by
  cases h with
  | cons r t =>
    obtain ⟨u, L', rfl, r'⟩ := reps1 t
    exact ⟨_, _, _, _, rfl, r, r'⟩
theorem fz_readN (x : Str) (m : Nat) {H : Hp} : Fz K H (fReadN x m) (vD (fReadN x m)) := by
  unfold fReadN
  repeat' split
  all_goals first | exact .int _ | exact .non
theorem br_print_number (F : FnOk P w K mg base CX0 k f fd ["number"] spPrintN) : FnOk P w K mg base CX0 k f fd ["number"] (spA K Ps g_print_number) := bridge F fun vs H Q E cs Ls Q' hR ht ⟨n, e, h1, hq⟩ q => by
  subst e
  obtain ⟨v, L, rfl, r⟩ := reps1 hR
  exact ⟨n, by rw [r.1.int_inv], h1, fun H' e => q _ H' _ e (.str _) hq⟩
theorem br_read_number (F : FnOk P w K mg base CX0 k f fd ["word", "most"] (spReadN K Ps)) : FnOk P w K mg base CX0 k f fd ["word", "most"] (spA K Ps g_read_number) := bridge F fun vs H Q E cs Ls Q' hR ht ⟨x, m, e, h1, h2, hq⟩ q => by
  subst e
  obtain ⟨v, u, L, L', rfl, r, r'⟩ := reps2 hR
  exact ⟨x, m, by rw [r.1.str_inv, r'.1.int_inv], h1, h2, ht, fun H' e => q _ H' _ e (fz_readN x m) hq⟩
theorem br_print_entry (F : FnOk P w K mg base CX0 k f fd ["entry"] spEntryP) : FnOk P w K mg base CX0 k f fd ["entry"] (spA K Ps g_print_entry) := bridge F fun vs H Q E cs Ls Q' hR ht ⟨n, e, h1, hq⟩ q => by
  subst e
  obtain ⟨v, L, rfl, r⟩ := reps1 hR
  exact ⟨n, by rw [r.1.int_inv], h1, fun H' e => q _ H' _ e (.str _) hq⟩
theorem br_print_range (F : FnOk P w K mg base CX0 k f fd ["low", "high"] spRangeP) : FnOk P w K mg base CX0 k f fd ["low", "high"] (spA K Ps g_print_range) := bridge F fun vs H Q E cs Ls Q' hR ht ⟨x, m, e, h1, h2, hq⟩ q => by
  subst e
  obtain ⟨v, u, L, L', rfl, r, r'⟩ := reps2 hR
  exact ⟨x, m, by rw [r.1.int_inv, r'.1.int_inv], h1, h2, fun H' e => q _ H' _ e (.str _) hq⟩
theorem br_print_items (F : FnOk P w K mg base CX0 k f fd ["items"] (spItemsP K)) : FnOk P w K mg base CX0 k f fd ["items"] (spA K Ps g_print_items) := bridge F fun vs H Q E cs Ls Q' hR ht ⟨xs, e, h1, h2, hq⟩ q => by
  subst e
  obtain ⟨v, L, rfl, r⟩ := reps1 hR
  obtain ⟨p, us, rfl, hS, hA⟩ := rep_l r
  have := strsOf_fz hA strsOf_map
  subst this
  exact ⟨p, xs, rfl, hS, h1, h2, fun H' e => q _ H' _ e (.str _) hq⟩
theorem br_print_stock (F : FnOk P w K mg base CX0 k f fd ["book", "stock"] (spStockP K)) : FnOk P w K mg base CX0 k f fd ["book", "stock"] (spA K Ps g_print_stock) := bridge F fun vs H Q E cs Ls Q' hR ht ⟨kn, ms, es, e, h1, h2, h3, h4, hq⟩ q => by
  subst e
  obtain ⟨v, u, L, L', rfl, r, r'⟩ := reps2 hR
  exact ⟨v, u, kn, ms, es, rfl, r.1.dp, r'.1.dp, h1, h2, h3, h4, fun H' e => q _ H' _ e (.str _) hq⟩
theorem br_word_at (F : FnOk P w K mg base CX0 k f fd ["text", "at"] spWord) : FnOk P w K mg base CX0 k f fd ["text", "at"] (spA K Ps g_word_at) := bridge F fun vs H Q E cs Ls Q' hR ht ⟨x, m, e, h1, h2, hq⟩ q => by
  subst e
  obtain ⟨v, u, L, L', rfl, r, r'⟩ := reps2 hR
  exact ⟨x, m, by rw [r.1.str_inv, r'.1.int_inv], h1, h2, fun H' e => q _ H' _ e (.str _) hq⟩
theorem br__law_word (F : FnOk P w K mg base CX0 k f fd ["number"] spWordL) : FnOk P w K mg base CX0 k f fd ["number"] (spA K Ps g__law_word) := bridge F fun vs H Q E cs Ls Q' hR ht ⟨n, e, h1, hq⟩ q => by
  subst e
  obtain ⟨v, L, rfl, r⟩ := reps1 hR
  exact ⟨n, by rw [r.1.int_inv], h1, fun H' e => q _ H' _ e (.str _) hq⟩
theorem br__law_range (F : FnOk P w K mg base CX0 k f fd ["low", "high"] spRangeL) : FnOk P w K mg base CX0 k f fd ["low", "high"] (spA K Ps g__law_range) := bridge F fun vs H Q E cs Ls Q' hR ht ⟨x, m, e, h1, h2, hq⟩ q => by
  subst e
  obtain ⟨v, u, L, L', rfl, r, r'⟩ := reps2 hR
  exact ⟨x, m, by rw [r.1.int_inv, r'.1.int_inv], h1, h2, fun H' e => q _ H' _ e (.str _) hq⟩
theorem br_read_range (F : FnOk P w K mg base CX0 k f fd ["word", "most"] (spRange K Ps)) : FnOk P w K mg base CX0 k f fd ["word", "most"] (spA K Ps g_read_range) := bridge F fun vs H Q E cs Ls Q' hR ht ⟨x, m, e, h1, h2, hq⟩ q => by
  subst e
  obtain ⟨v, u, L, L', rfl, r, r'⟩ := reps2 hR
  refine ⟨x, m, by rw [r.1.str_inv, r'.1.int_inv], h1, h2, ht, fun H' v e hv => q _ H' _ e ?_ hq⟩
  cases hf : fRange x m with
  | none =>
    rw [hf] at hv
    cases hv
    exact .non
  | some p =>
    rw [hf] at hv
    obtain ⟨a, rfl, hS⟩ := hv
    exact .tup hS (.cons (.int _) (.cons (.int _) .nil))
end
end Fw


namespace Fw
open PySem PySem.Spec PyProof.Rows L2 GxR Gx Gy RZ Mint
/-! ### enumerate(list, start=k) -/
section
variable {M : Model} {A : Around} {E : Value → Shared → Prop} {s : Shared} {env : Env}
theorem evalArgs_kwT {f : Value} {x : Sem Value} {rest : List (Bool × Sem Value)} {keywords : List (Option Str × Sem Value)} {Q : Args → Shared → Prop}
    (hall : keywords.all (·.1.isSome) = true)
    (h : wpAny M A (spliced ((false, x) :: rest)) (fun vs s₁ => wpAny M A (evalAll (keywords.map (·.2))) (fun kvs s₂ => Q ⟨vs, (keywords.filterMap (·.1)).zip kvs⟩ s₂) E s₁) E s) :
    wpAny M A (evalArgs f true ((false, x) :: rest) keywords) Q E s := evalArgs_kwB hall h
theorem callWith_type_kw {pos : Pos} {T : String} {e : Expr} {rest : List Expr} {kws : List Keyword} {Q : Value → Shared → Prop}
    (h : wpAny M A (spliced (backTo pos (starEach (e :: rest) env))) (fun vs s₁ => wpAny M A (evalAll ((backToKw pos (keywordEach kws env)).map (·.2)))
      (fun kvs s₂ => wpAny M A (call (.type T) vs (((backToKw pos (keywordEach kws env)).filterMap (·.1)).zip kvs)) Q E s₂) E s₁) E s)
    (he : backTo pos (starEach (e :: rest) env) = (false, eval e env) :: backTo pos (starEach rest env) := by rfl)
    (hplain : (backTo pos (starEach (e :: rest) env)).any (·.1) = false := by rfl)
    (hall : (backToKw pos (keywordEach kws env)).all (·.1.isSome) = true := by rfl)
    (hkw : (backToKw pos (keywordEach kws env)).any (·.1.isNone) = false := by rfl) :
    wpAny M A (callWith pos (.type T) [] (backTo pos (starEach (e :: rest) env)) (backToKw pos (keywordEach kws env))) Q E s := by
  have h2 : wpAny M A (evalArgs (.type T) true (backTo pos (starEach (e :: rest) env)) (backToKw pos (keywordEach kws env))) (fun a s₁ => wpAny M A (call (.type T) ([] ++ a.pos) a.kw) Q E s₁) E s := by
    rw [he] at h ⊢
    exact evalArgs_kwB hall h
  unfold callWith
  refine wpAny_bind (wpAny_holding (wpAny_mono h2 (fun a s₁ h₁ => wpAny_bind (wpAny_standAt ?_)) fun _ _ x => x))
  simp only [hplain, hkw, Bool.or_false]
  refine wpAny_bind (wpAny_pure ?_)
  exact wpAny_bind (wpAny_mono h₁ (fun r s₂ hr => wpAny_bind (wpAny_holding (wpAny_point (wpAny_pure hr)))) fun _ _ x => x)
end
def IteS (K : PySem.W.Frag) (k : Int) (a : Addr) : It :=
  ⟨fun i H => ∃ (xs : List V) (x : V), SqL K H a xs ∧ xs[i]? = some x, fun i H v H' => ∃ T x, v = .ref T ∧ H T = none ∧ H' = upd H T (.tup [.int (k + (i : Nat)), x]) ∧ ∀ xs, SqL K H a xs → xs[i]? = some x, fun i H => ∃ xs : List V, SqL K H a xs ∧ xs.length = i⟩
theorem turn_enumS {P : Program} {w : World} {K : PySem.W.Frag} {elts : List Expr} {kk : Nat} {tpos : Pos} (k : Int) (a e it : Addr) :
    Turn P w K (.Tuple elts kk tpos) (IteS K k a) [e, it] e (fun i h => (∃ old, IsEnum h e it (k + (i : Nat)) old) ∧ h.IsListIter it a i ∧ e ≠ it ∧ a ≠ e ∧ a ≠ it) where
  mem := by simp
  obj := fun i h st b hb => by
    obtain ⟨⟨old, he⟩, ⟨o, ho, hc, hd⟩, _⟩ := st
    have e' : b = e ∨ b = it := by simpa using hb
    rcases e' with z | z
    · rw [z]; exact ⟨_, he, fun v q => nomatch q⟩
    · rw [z]; exact ⟨o, ho, fun v q => by rw [hd] at q; cases q⟩
  keep := fun i h h' st k => let ⟨⟨old, he⟩, hi, hne⟩ := st; ⟨⟨old, k e (by simp) _ he⟩, hi.at fun o q => k it (by simp) o q, hne⟩
  item := by
    intro X hP hw hK hc i pins s σ H E I hf st hg
    subst hP hw hK
    obtain ⟨⟨old, he⟩, hit, hne, hae, hai⟩ := st
    obtain ⟨xs, x, hq, hx⟩ := hg
    obtain ⟨its, rv, p, hz⟩ := I.list hq
    obtain ⟨u, hu, ru⟩ := rv.get hx
    have hel : e < s.heap.objs.size := Heap.lt_size he
    have hil : it < s.heap.objs.size := by obtain ⟨_, q, _⟩ := hit; exact Heap.lt_size q
    have hlt : i < its.toArray.size := by
      rw [List.size_toArray]
      exact (List.getElem?_eq_some_iff.mp hu).1
    refine wpAny_pyNext_enum_itemC (Draws.list (A := X.A.in1) (by have := I.ok.hd hc; simpa [Around.in1] using this) it a hai its.toArray) he ⟨hit, p.isList⟩ hlt hne (by simp [hne, Ne.symm hae]) fun x' h' tk hx' ho hst' hT hsz hk => ?_
    have hux : x' = u := by
      have hx'' : its.toArray[i]? = some x' := hx'
      rw [List.getElem?_toArray, hu] at hx''
      exact (Option.some.inj hx'').symm
    subst hux
    obtain ⟨hit', _⟩ := hst'
    refine ⟨_, rfl, wpAny_letOwnedTupleGo_enum (s := { s with heap := h', toks := tk + 1 }) ho fun h'' he' sb => ?_⟩
    have hT2 : h''.get? s.heap.objs.size = some { cls := .type "tuple", data := .seq #[.int (k + (i : Nat)) tk, x'] } := (sb.2 _ (Nat.ne_of_gt hel)).trans hT
    have new : ObjOk X.prog X.w (upd H s.heap.objs.size (.tup [.int (k + (i : Nat)), x])) h'' s.heap.objs.size (.tup [.int (k + (i : Nat)), x]) :=
      ⟨by show 2 ≤ sizeLine; decide, [.int (k + (i : Nat)) tk, x'], .cons ⟨_, rfl⟩ (.cons ru .nil), ⟨_, hT2, rfl, _, rfl⟩⟩
    have I1 : L2.Inv X pins σ (upd H s.heap.objs.size (.tup [.int (k + (i : Nat)), x])) { s with heap := h'', toks := tk + 1 } :=
      I.turnedNew (ch := [e, it]) (fun b ob hb q => (sb.2 b (fun z => hb (by simp [z]))).trans (hk b ob (fun z => hb (by simp [z])) (fun z => hb (by simp [z])) q)) hf (Nat.le_refl _) new
    refine ⟨.ref s.heap.objs.size, _, I1, rfl, ⟨_, x, rfl, I.hok.fresh (Nat.le_refl _), rfl, fun ys hy => by rw [I.list_inj hy hq]; exact hx⟩, ⟨⟨x', ?_⟩, hit'.at fun o q => (sb.2 it (Ne.symm hne)).trans q, hne, hae, hai⟩, fun b hb => ?_⟩
    · have e1 : k + ((i + 1 : Nat) : Int) = k + (i : Int) + 1 := by omega
      rw [e1]; exact he'
    · have hb' : b < s.heap.objs.size := by
        have e' : b = e ∨ b = it := by simpa using hb
        rcases e' with z | z
        · rw [z]; exact hel
        · rw [z]; exact hil
      rw [upd_ne (Nat.ne_of_lt hb')]
      exact (hf b hb).1
  done := by
    intro X hP hw hK hc i pins s σ H E I hf st hg
    subst hP hw hK
    obtain ⟨⟨old, he⟩, hit, hne, hae, hai⟩ := st
    obtain ⟨xs, hq, hx⟩ := hg
    obtain ⟨its, rv, p, hz⟩ := I.list hq
    obtain ⟨f0, f1, f2, f3, f4, f5⟩ := hf it (by simp)
    have hl := rv.length
    have ei : its.toArray.size = i := by rw [List.size_toArray, ← hl, hx]
    refine wpAny_pyNext_enum_endD (Draws.list (A := X.A.in1) (by have := I.ok.hd hc; simpa [Around.in1] using this) it a hai its.toArray) he ⟨by rw [ei]; exact hit, p.isList⟩ fun h' eb => ⟨rfl, I.turned (t' := s.toks) (fun b o hb q => eb b o hb q) f0 f1 f3 f4 f5⟩
  self := fun A i s Q E st h => let ⟨⟨_, he⟩, _⟩ := st; wpAny_pyIter_enum he h
def iEnumS (K : PySem.W.Frag) (k : Int) (ta : TA) : TI := fun σ H R => ta σ H fun vs H1 => ∃ a xs, vs = [.ref a] ∧ SqL K H1 a xs ∧ (-(2 ^ 63) ≤ k ∧ k < 2 ^ 63) ∧ R (IteS K k a) H1
theorem pi_enumS {X : Cx} {e ke : Expr} {ta : TA} {k : Int} {p kp pos tpos : Pos} {elts : List Expr} {kk : Nat} (hg : Gl X "enumerate") (hm : X.mg "enumerate" = none) (ha : PA X [e] ta) (hk : PE X ke (tC (.int k))) (hs : starEach [e] X.env = [(false, eval e X.env)] := by rfl) :
    PI X (.Tuple elts kk tpos) (.Call (.Name "enumerate" p) [e] [⟨some (Str.ofString "start"), ke, kp⟩] pos) (iEnumS X.K k ta) := by
  refine ⟨fun pins s σ H R I h => ?_⟩
  refine wpAny_Call_Name_kw (ld_blt I hg hm boot_enumerate ?_)
  refine callWith_type_kw (thn (ha.run pos pins s σ H _ I h) fun us s1 ⟨vs, H1, I1, r1, q1⟩ => ?_) (by rw [hs]; rfl) (by rw [hs]; rfl)
  obtain ⟨a, xs, ex, hq, ⟨k0, k1⟩, q⟩ := q1
  subst ex
  cases r1 with
  | cons r rr =>
    cases rr
    cases r
    refine kws_cons (thn (hk.run pins s1 σ H1 (fun v H2 => v = .int k ∧ H2 = H1) I1 ⟨rfl, rfl⟩) fun kv s2 ⟨v, H2, I2, rv2, ev, eH⟩ => ?_)
    subst ev eH
    obtain ⟨tk, rfl⟩ := rv2
    refine kws_nil ?_
    obtain ⟨its, rv, p', hz⟩ := I2.list hq
    show wpAny _ _ (call (.type "enumerate") [.ref a] [(Str.ofString "start", .int k tk)]) _ _ _
    refine enum_begins_start (begins_list a its.toArray) p'.isList k0 k1 fun h' he hit hsz hkeep => wpAny_pyIter_enum he ?_
    have I3 : L2.Inv X pins σ H2 { s2 with heap := h' } := I2.kept (t' := s2.toks) hkeep
    have ha2 : a < s2.heap.objs.size := by obtain ⟨o, ho, _⟩ := p'.isList; exact Heap.lt_size ho
    refine ⟨s2.heap.objs.size + 1, [s2.heap.objs.size + 1, s2.heap.objs.size], _, _, H2, rfl, I3, turn_enumS k a (s2.heap.objs.size + 1) s2.heap.objs.size, ⟨⟨.none, by simpa using he⟩, ⟨_, hit, rfl, rfl⟩, Nat.succ_ne_self _, Nat.ne_of_lt (Nat.lt_succ_of_lt ha2), Nat.ne_of_lt ha2⟩, fun b hb => ?_, q⟩
    have e' : b = s2.heap.objs.size + 1 ∨ b = s2.heap.objs.size := by simpa using hb
    have hle : s2.heap.objs.size ≤ b := by
      rcases e' with z | z
      · rw [z]; exact Nat.le_add_right _ _
      · rw [z]; exact Nat.le_refl _
    exact I2.fpOk hle (I2.hok.fresh hle)
section
variable {K : PySem.W.Frag} {Ps : List Addr}
def enumD (k : Int) : List PyData → List PyData
  | [] => []
  | d :: ds => .tuple [.int k, d] :: enumD (k + 1) ds
theorem enumD_len (k : Int) (ds : List PyData) : (enumD k ds).length = ds.length := by
  induction ds generalizing k with
  | nil => rfl
  | cons d ds ih => rw [enumD, List.length_cons, ih, List.length_cons]
theorem enumD_get {ds : List PyData} {k : Int} {i : Nat} {d : PyData} (e : (enumD k ds)[i]? = some d) : ∃ x, ds[i]? = some x ∧ d = .tuple [.int (k + (i : Nat)), x] := by
  induction ds generalizing k i with
  | nil => simp [enumD] at e
  | cons y ds ih =>
    cases i with
    | zero =>
      rw [enumD] at e
      simp at e
      exact ⟨y, rfl, by simp [e]⟩
    | succ i =>
      rw [enumD] at e
      obtain ⟨x, h1, h2⟩ := ih (by simpa using e)
      exact ⟨x, by simpa using h1, by rw [h2, show k + 1 + (i : Int) = k + ((i + 1 : Nat) : Int) by omega]⟩
def wEnumS {K : PySem.W.Frag} (k : Int) (cs : List (Cn K)) (Q : List PyData → Prop) : Prop := ∃ ds, cs = [.l ds] ∧ (-(2 ^ 63) ≤ k ∧ k < 2 ^ 63) ∧ Q (enumD k ds)
instance walk_enumS (k : Int) : WalkD K (iEnumS K k) (fun vs H1 R => ∃ a xs, vs = [.ref a] ∧ SqL K H1 a xs ∧ (-(2 ^ 63) ≤ k ∧ k < 2 ^ 63) ∧ R (IteS K k a) H1) (wEnumS k) := ⟨fun _ _ _ _ => rfl, fun {H1 vs cs Ls ds R} hr hg q => by
  obtain ⟨ds', rfl, hk, rfl⟩ := hg
  cases hr with
  | cons r t =>
    cases t
    obtain ⟨b, us, rfl, hS, hA⟩ := rep_l r
    refine ⟨b, us, rfl, hS, hk, q _ fun {H2 Ls2} h2 => ?_⟩
    cases h2 with
    | cons h2 t =>
      obtain ⟨b', us', eb, hS', hA'⟩ := rep_l h2
      cases eb
      refine ⟨fun {i d} e => ?_, ⟨us', hS', by rw [enumD_len, hA'.len]⟩⟩
      obtain ⟨x, hx, rfl⟩ := enumD_get e
      obtain ⟨w, e3, e4⟩ := hA'.at_ hx
      refine ⟨⟨us', w, hS', e3⟩, fun v H3 ⟨T, x', ev, hT0, eH, f1⟩ => ?_⟩
      have g1 := f1 us' hS'
      rw [e3] at g1
      cases g1
      subst eH ev
      have kk : Kp F0 H2 (upd H2 T (.tup [.int (k + (i : Nat)), w])) := .new hT0 _
      exact ⟨kk, .tup (SqT.of upd_same) (.cons (.int _) (.cons (e4.keep kk) .nil))⟩⟩
@[simp] theorem x_wEnumS {k : Int} {cs : List (Cn K)} {R : List PyData → Prop} : wEnumS k cs R ↔ ∃ ds, cs = [.l ds] ∧ R (enumD k ds) ∧ (-(2 ^ 63) ≤ k ∧ k < 2 ^ 63) := ⟨fun ⟨d, a, b, c⟩ => ⟨d, a, c, b⟩, fun ⟨d, a, b, c⟩ => ⟨d, a, c, b⟩⟩

/-! ### zip of three tuples -/
def zip3D : List PyData → List PyData → List PyData → List PyData
  | x :: xs, y :: ys, z :: zs => .tuple [x, y, z] :: zip3D xs ys zs
  | _, _, _ => []
theorem zip3D_len : ∀ {xs ys zs : List PyData}, xs.length = ys.length → ys.length = zs.length → (zip3D xs ys zs).length = xs.length
  | [], _, _, _, _ => rfl
  | x :: xs, y :: ys, z :: zs, h1, h2 => by rw [zip3D, List.length_cons, List.length_cons, zip3D_len (by simpa using h1) (by simpa using h2)]
  | x :: xs, y :: ys, [], h1, h2 => by simp at h2
  | x :: xs, [], _, h1, h2 => by simp at h1
theorem zip3D_get : ∀ {xs ys zs : List PyData} {i : Nat} {d : PyData}, (zip3D xs ys zs)[i]? = some d → ∃ x y z, xs[i]? = some x ∧ ys[i]? = some y ∧ zs[i]? = some z ∧ d = .tuple [x, y, z]
  | x :: xs, y :: ys, z :: zs, 0, d, e => by
    rw [zip3D] at e
    simp at e
    exact ⟨x, y, z, rfl, rfl, rfl, e.symm⟩
  | x :: xs, y :: ys, z :: zs, i + 1, d, e => by
    rw [zip3D] at e
    obtain ⟨a, b, c, h1, h2, h3, h4⟩ := zip3D_get (xs := xs) (ys := ys) (zs := zs) (i := i) (by simpa using e)
    exact ⟨a, b, c, by simpa using h1, by simpa using h2, by simpa using h3, h4⟩
  | [], _, _, i, d, e => by simp [zip3D] at e
  | x :: xs, [], _, i, d, e => by simp [zip3D] at e
  | x :: xs, y :: ys, [], i, d, e => by simp [zip3D] at e
def wZip3 {K : PySem.W.Frag} (cs : List (Cn K)) (Q : List PyData → Prop) : Prop := ∃ xs ys zs, cs = [.d (.tuple xs), .d (.tuple ys), .d (.tuple zs)] ∧ xs.length = ys.length ∧ ys.length = zs.length ∧ Q (zip3D xs ys zs)
instance walk_zip3 : WalkD K (iZip3 K) (fun vs H1 R => ∃ a b c xs ys zs, vs = [.ref a, .ref b, .ref c] ∧ SqT K H1 a xs ∧ SqT K H1 b ys ∧ SqT K H1 c zs ∧ R (Itz3 K a b c) H1) wZip3 := ⟨fun _ _ _ _ => rfl, fun {H1 vs cs Ls ds R} hr hg q => by
  obtain ⟨xs, ys, zs, rfl, l1, l2, rfl⟩ := hg
  cases hr with
  | cons r t =>
    cases t with
    | cons r2 t =>
      cases t with
      | cons r3 t =>
        cases t
        obtain ⟨a, us, rfl, hS, hA⟩ := r.1.tup_inv
        obtain ⟨b, ws, rfl, hT, hB⟩ := r2.1.tup_inv
        obtain ⟨c, ts, rfl, hU, hC⟩ := r3.1.tup_inv
        refine ⟨a, b, c, us, ws, ts, rfl, hS, hT, hU, q _ fun {H2 Ls2} h2 => ?_⟩
        cases h2 with
        | cons r t =>
          cases t with
          | cons r2 t =>
            cases t with
            | cons r3 t =>
              obtain ⟨a', us, ea, hS, hA⟩ := r.1.tup_inv
              cases ea
              obtain ⟨b', ws, ea, hT, hB⟩ := r2.1.tup_inv
              cases ea
              obtain ⟨c', ts, ea, hU, hC⟩ := r3.1.tup_inv
              cases ea
              have l0 := zip3D_len l1 l2
              refine ⟨fun {i d} e => ?_, ⟨us, ws, ts, hS, hT, hU, by rw [hA.len, l0], by rw [hB.len, l0, l1], by rw [hC.len, l0, l1, l2]⟩⟩
              obtain ⟨x, y, z, hx, hy, hz, rfl⟩ := zip3D_get e
              obtain ⟨vx, q1, q2⟩ := hA.at_ hx
              obtain ⟨vy, q3, q4⟩ := hB.at_ hy
              obtain ⟨vz, q5, q6⟩ := hC.at_ hz
              refine ⟨⟨us, ws, ts, vx, vy, vz, hS, hT, hU, q1, q3, q5⟩, fun v H' ⟨T, x', y', z', ev, hT0, eH, f1, f2, f3⟩ => ?_⟩
              have g1 := f1 us hS
              rw [q1] at g1
              cases g1
              have g2 := f2 ws hT
              rw [q3] at g2
              cases g2
              have g3 := f3 ts hU
              rw [q5] at g3
              cases g3
              subst eH ev
              have k : Kp F0 H2 (upd H2 T (.tup [vx, vy, vz])) := .new hT0 _
              exact ⟨k, .tup (SqT.of upd_same) (.cons (q2.keep k) (.cons (q4.keep k) (.cons (q6.keep k) .nil)))⟩⟩
@[simp] theorem x_wZip3 {cs : List (Cn K)} {R : List PyData → Prop} : wZip3 cs R ↔ ∃ xs ys zs, cs = [.d (.tuple xs), .d (.tuple ys), .d (.tuple zs)] ∧ R (zip3D xs ys zs) ∧ xs.length = ys.length ∧ ys.length = zs.length := ⟨fun ⟨x, y, z, a, b, c, d⟩ => ⟨x, y, z, a, d, b, c⟩, fun ⟨x, y, z, a, d, b, c⟩ => ⟨x, y, z, a, b, c, d⟩⟩
theorem zip3D_map {α β γ : Type} (e1 : α → PyData) (e2 : β → PyData) (e3 : γ → PyData) : ∀ (xs : List α) (ys : List β) (zs : List γ), zip3D (xs.map e1) (ys.map e2) (zs.map e3) = (xs.zip (ys.zip zs)).map fun p => .tuple [e1 p.1, e2 p.2.1, e3 p.2.2]
  | x :: xs, y :: ys, z :: zs => by
    show _ :: zip3D (xs.map e1) (ys.map e2) (zs.map e3) = _
    rw [zip3D_map e1 e2 e3 xs ys zs]
    rfl
  | [], _, _ => by cases ‹List β› <;> cases ‹List γ› <;> rfl
  | x :: xs, [], _ => rfl
  | x :: xs, y :: ys, [] => rfl

/-! ### truth -/
def tTru (K : PySem.W.Frag) (ta : TE) : TT := fun σ H Q => ta σ H fun x H' => ∃ k, TruV K x H' k ∧ Q k H'
def truC {K : PySem.W.Frag} : Cn K → Option Bool
  | .d .none => some false
  | .d (.bool b) => some b
  | .d (.int i) => some (i != 0)
  | .d (.tuple ds) => some (!ds.isEmpty)
  | .l ds => some (!ds.isEmpty)
  | .k kvs => some (!kvs.isEmpty)
  | _ => none
def aTru {K : PySem.W.Frag} (a : AE K) : AT K := fun s Q => a s fun r s1 => ∃ c b, valOf s1 r = some c ∧ truC c = some b ∧ Q b s1
theorem empty_fz {H : Hp} {us : List V} {ds : List PyData} (h : FzA K H us ds) : ds.isEmpty = us.isEmpty := by cases h <;> rfl
instance snd_tru {te : TE} {fe : AE K} [a : SndE K Ps te fe] : SndT K Ps (tTru K te) (aTru fe) := ⟨fun {base M P H σ s fp Q Q'} rs h q => by
  refine a.run rs h fun v H1 r1 s1 G rs1 k1 e1 n1 ⟨c, b, ec, eb, h1⟩ => ?_
  have hr := rs1.val' e1 ec
  refine ⟨b, ?_, q b H1 s1 rs1 k1 h1⟩
  unfold truC at eb
  split at eb
  · cases eb; rw [hr.1.non_inv]; rfl
  · cases eb; rw [hr.1.bl_inv]; rfl
  · cases eb; rw [hr.1.int_inv]; rfl
  · cases eb
    obtain ⟨p, us, rfl, hS, hA⟩ := hr.1.tup_inv
    exact .inr (.inl ⟨us, hS, by rw [empty_fz hA]⟩)
  · cases eb
    obtain ⟨p, us, rfl, hS, hA⟩ := rep_l hr
    exact .inl ⟨us, hS, by rw [empty_fz hA]⟩
  · cases eb
    obtain ⟨p, ks, rfl, _, hp, hP⟩ := hr
    refine .inr (.inr ⟨ks, hp, ?_⟩)
    cases hP <;> rfl
  · cases eb⟩
variable {s : Sto K} {Qt : Bool → Sto K → Prop} {a : AE K}
@[simp] theorem x_tru : aTru a s Qt ↔ a s fun r s1 => ∃ c b, valOf s1 r = some c ∧ truC c = some b ∧ Qt b s1 := Iff.rfl
@[simp] theorem tru_t {ds : List PyData} : truC (K := K) (.d (.tuple ds)) = some (!ds.isEmpty) := rfl
@[simp] theorem tru_l {ds : List PyData} : truC (K := K) (.l ds) = some (!ds.isEmpty) := rfl
@[simp] theorem tru_b {b : Bool} : truC (K := K) (.d (.bool b)) = some b := rfl

/-! ### x in a list or tuple of any data -/
def rInX (K : PySem.W.Frag) : R2 := fun x y H Q => ∃ d ds, Dp K H x d ∧ (Dp K H y (.list ds) ∨ Dp K H y (.tuple ds)) ∧ SeqAt.shaped d = true ∧ SeqAt.shaped (.list ds) = true ∧ SeqAt.shaped (.tuple ds) = true ∧ Q (.bl (ds.any fun z => PyData.eqv z d)) H
def cInX {K : PySem.W.Frag} : Cn K → Cn K → (Cn K → Prop) → Prop := fun x y Q => ∃ d ds, x = .d d ∧ itemsC y = some ds ∧ SeqAt.shaped d = true ∧ SeqAt.shaped (.list ds) = true ∧ SeqAt.shaped (.tuple ds) = true ∧ Q (.d (.bool (ds.any fun z => PyData.eqv z d)))
instance op_inX : OpC K (rInX K) cInX := ⟨fun {H u v x y L L' Q Q'} hu hv h q => by
  obtain ⟨d, ds, rfl, h1, h2, h3, h4, h⟩ := h
  refine ⟨d, ds, hu.1.dp, ?_, h2, h3, h4, q _ H (.d (.bool _)) [] .refl ⟨.bl _, rfl⟩ (fun a z => nomatch z) h⟩
  unfold itemsC at h1
  split at h1
  · cases h1; exact .inr hv.1.dp
  · cases h1
    obtain ⟨p, us, rfl, hS, hA⟩ := rep_l hv
    exact .inl (.lst hS hA.dp)
  · cases h1⟩
@[simp] theorem x_inX {x y : Cn K} {R : Cn K → Prop} : cInX x y R ↔ ∃ d ds, x = .d d ∧ itemsC y = some ds ∧ SeqAt.shaped d = true ∧ SeqAt.shaped (.list ds) = true ∧ SeqAt.shaped (.tuple ds) = true ∧ R (.d (.bool (ds.any fun z => PyData.eqv z d))) := Iff.rfl
end
section
variable {X : Cx}
theorem ft_truth {a : Expr} {ta : TE} (ha : PE X a ta) (he : ∀ whole, isTrue a X.env whole = (do let v ← whole; standAt a.pos; holding [v] (truthy v))) : PT X a (tTru X.K ta) := pt_truth ha he
theorem fo_inX (hu : X.A.units + 65 < cLine) : OpR X (compareOp .In) (rInX X.K) := by
  intro pins s σ H x y v u Q I rx ry h
  obtain ⟨d, ds, hd, he, sd, sl, st, q⟩ := h
  obtain ⟨as, r1⟩ := Dp.reads I d x v hd rx
  have room : ∀ {n : Nat}, X.A.units + 1 + min n d.depth < cLine := fun {n} => by
    have h1 := SeqAt.depth_of_shaped sd
    have h2 : min n d.depth ≤ d.depth := Nat.min_le_right _ _
    omega
  rcases he with he | he
  · obtain ⟨bs, r2⟩ := Dp.reads I (.list ds) y u he ry
    have c := SeqAt.canLay_of_shaped sl
    simp only [PyData.canLay0] at c
    exact SeqAt.in_list_reads r2 r1 c (SeqAt.canLay_of_shaped sd) room ⟨.bl _, H, I, rfl, q⟩
  · obtain ⟨bs, r2⟩ := Dp.reads I (.tuple ds) y u he ry
    have c := SeqAt.canLay_of_shaped st
    simp only [PyData.canLay0] at c
    exact SeqAt.in_tuple_reads r2 r1 c (SeqAt.canLay_of_shaped sd) room ⟨.bl _, H, I, rfl, q⟩
theorem units65F {k : Nat} {A : Around} (r : Room k A) : A.units + 65 < cLine := by have := r.un; omega
end
end Fw


namespace Fw
open PySem PySem.Spec PyProof.Rows L2 GxR Gx Gy RZ Mint
/-! ### items: words and kinds -/
abbrev sp1 : Str := Str.ofString " "
def itS (p : Str × Str) : Str := p.1 ++ sp1 ++ p.2
def itsOf (kn W : List Str) : List (Str × Str) := (kn.zip W).filterMap fun p => if p.2 = Str.ofString "" then none else some (p.2, p.1)
def textOf (its : List (Str × Str)) : Str := itemsS (its.map itS)
/-- a word of an item -/
structure WordOk (x : Str) : Prop where
  ne : x ≠ Str.ofString ""
  len : x.length ≤ 70
  sp : 32 ∉ sgn x
  pl : 43 ∉ sgn x
  co : 58 ∉ sgn x
  gt : 62 ∉ sgn x
  nl : 10 ∉ sgn x
  ok : ∀ c ∈ sgn x, 46 ≤ c ∧ c ≤ 122
theorem numS_in {n c : Nat} (h : c ∈ sgn (numS n)) : 48 ≤ c ∧ c ≤ 57 := by
  have h2 := numS_digits n c h
  simpa using h2
theorem wordOk_of {x : Str} (h1 : x.length ≤ 70) (h2 : sgn x ≠ []) (h3 : ∀ c ∈ sgn x, (48 ≤ c ∧ c ≤ 57) ∨ c = 46 ∨ (97 ≤ c ∧ c ≤ 122)) : WordOk x := by
  refine ⟨fun z => h2 (by rw [z]; decide +kernel), h1, fun z => ?_, fun z => ?_, fun z => ?_, fun z => ?_, fun z => ?_, fun c z => ?_⟩ <;> have := h3 _ z <;> omega
theorem entryS_ok {e : Int} (h : okE e) (h0 : e ≠ 0) : WordOk (entryS e) := by
  unfold entryS
  rcases h with h | ⟨h1, h2⟩
  · rw [if_pos h]
    exact wordOk_of (by decide +kernel) (by decide +kernel) (by decide +kernel)
  · rw [if_neg (by omega)]
    have hl := numS_len (n := e.toNat) (by omega)
    exact wordOk_of (by omega) (numS_ne _) fun c hc => .inl (numS_in hc)
theorem rangeS_ok {lo hi : Nat} (h1 : lo ≤ 10 ^ 30) (h2 : hi ≤ 10 ^ 30) : WordOk (rangeS lo hi) := by
  unfold rangeS
  have l1 := numS_len h1
  have l2 := numS_len h2
  split
  · exact wordOk_of (by omega) (numS_ne _) fun c hc => .inl (numS_in hc)
  · have ld : (Str.ofString "..").length = 2 := by decide +kernel
    have sd : sgn (Str.ofString "..") = [46, 46] := by decide +kernel
    refine wordOk_of (by rw [Str.length_append, Str.length_append]; omega) (fun z => ?_) fun c hc => ?_
    · rw [sgn_app, sgn_app] at z
      exact numS_ne lo (List.append_eq_nil_iff.mp (List.append_eq_nil_iff.mp z).1).1
    · rw [sgn_app, sgn_app, sd] at hc
      rcases List.mem_append.mp hc with hc | hc
      · rcases List.mem_append.mp hc with hc | hc
        · exact .inl (numS_in hc)
        · simp at hc; exact .inr (.inl hc)
      · exact .inl (numS_in hc)
/-- a kind: a name -/
structure KindOk (x : Str) : Prop where
  ne : sgn x ≠ []
  len : x.length ≤ 12
  ok : ∀ c ∈ sgn x, (48 ≤ c ∧ c ≤ 57) ∨ (97 ≤ c ∧ c ≤ 122)
theorem GoodName.kind {i : Nat} {x : Str} (hi : i < 14) (h : GoodName i x) : KindOk x := by
  obtain ⟨c0, cs, e, h0, hs, h9, h5⟩ := h
  have e' : sgn x = c0 :: (cs ++ [97 + i]) := e
  have hL : ∀ c ∈ lettersS.cps.toList, 97 ≤ c ∧ c ≤ 122 := by decide +kernel
  have hS : ∀ c ∈ signsS.cps.toList, (48 ≤ c ∧ c ≤ 57) ∨ (97 ≤ c ∧ c ≤ 122) := by decide +kernel
  refine ⟨by rw [e']; simp, by rw [← sgn_len, e']; simp; omega, fun c hc => ?_⟩
  rw [e'] at hc
  rcases List.mem_cons.mp hc with rfl | hc
  · exact .inr (hL _ h0)
  · rcases List.mem_append.mp hc with hc | hc
    · exact hS c (hs c hc)
    · rw [List.mem_singleton.mp hc]; omega
theorem KindOk.no {x : Str} (h : KindOk x) {c : Nat} (hc : c < 48 ∨ (57 < c ∧ c < 97) ∨ 122 < c) : c ∉ sgn x := fun z => by
  have := h.ok c z
  omega
theorem its_words {kn W : List Str} {p : Str × Str} (h : p ∈ itsOf kn W) : p.1 ∈ W ∧ p.2 ∈ kn ∧ p.1 ≠ Str.ofString "" := by
  unfold itsOf at h
  obtain ⟨q, h1, h2⟩ := List.mem_filterMap.mp h
  split at h2
  · cases h2
  · rename_i hne
    cases h2
    exact ⟨(List.of_mem_zip h1).2, (List.of_mem_zip h1).1, hne⟩
theorem its_len (kn W : List Str) : (itsOf kn W).length ≤ kn.length := by
  unfold itsOf
  refine Nat.le_trans (List.length_filterMap_le ..) ?_
  rw [List.length_zip]
  exact Nat.min_le_left _ _
theorem sum_le {f : Str → Nat} {b : Nat} : ∀ (xs : List Str), (∀ x ∈ xs, f x ≤ b) → (xs.map f).sum ≤ xs.length * b
  | [], _ => by simp
  | x :: xs, h => by
    have h1 := h x List.mem_cons_self
    have h2 := sum_le xs fun y hy => h y (List.mem_cons_of_mem _ hy)
    rw [List.map_cons, List.sum_cons, List.length_cons, Nat.add_mul]
    omega
theorem join_len (a : Str) : ∀ (xs : List Str), (Txt.join a xs).length ≤ (xs.map (·.length)).sum + xs.length * a.length := by
  intro xs
  unfold Txt.join
  rw [StrLaws.glued_eq_join]
  induction xs with
  | nil => exact Nat.zero_le _
  | cons x r ih =>
    cases r with
    | nil =>
      show x.length ≤ _
      rw [List.map_cons, List.sum_cons]
      omega
    | cons y r =>
      show ((x ++ a) ++ Str.join a (y :: r)).length ≤ _
      rw [Str.length_append, Str.length_append, List.map_cons, List.sum_cons, List.length_cons, Nat.add_mul]
      omega
end Fw


namespace Fw
open PySem PySem.Spec PyProof.Rows L2 GxR Gx Gy RZ Mint
/-! ### _law_items -/
def g__law_items {K : PySem.W.Frag} : GF K := fun cs Q => ∃ (kn W : List Str) (b : Bool), cs = [.x (drawsO K), .d (.tuple (kn.map PyData.str)), .l (W.map PyData.str), .d (.bool b)] ∧ W.length = kn.length ∧ kn.length ≤ 999 ∧ (∀ k ∈ kn, KindOk k) ∧ (∀ x ∈ W, x = Str.ofString "" ∨ WordOk x) ∧
  ∀ its, its.Perm (itsOf kn W) → (b = false → its = itsOf kn W) → Q (.d (.str (textOf its))) cs
theorem lays_ofF : ∀ {ds : List PyData}, (∀ x ∈ ds, x.canLay0 = true) → PyData.canLayAll0 ds = true
  | [], _ => by simp [PyData.canLayAll0]
  | x :: r, h => by
    simp only [PyData.canLayAll0]
    rw [h x List.mem_cons_self, lays_ofF fun y hy => h y (List.mem_cons_of_mem _ hy)]
    rfl
theorem deeps_ofF {n : Nat} : ∀ {ds : List PyData}, (∀ x ∈ ds, x.depth ≤ n) → PyData.depthAll ds ≤ n
  | [], _ => by simp [PyData.depthAll]
  | x :: r, h => by
    simp only [PyData.depthAll]
    have := h x List.mem_cons_self
    have := deeps_ofF fun y hy => h y (List.mem_cons_of_mem _ hy)
    omega
theorem shaped_lst {ds : List PyData} (h : ∀ x ∈ ds, x.canLay0 = true ∧ x.depth ≤ 60) : SeqAt.shaped (.list ds) = true := by
  unfold SeqAt.shaped
  have l : (PyData.list ds).canLay0 = true := by
    simp only [PyData.canLay0]
    exact lays_ofF fun x hx => (h x hx).1
  have e : (PyData.list ds).depth ≤ 61 := by
    simp only [PyData.depth]
    have := deeps_ofF fun x hx => (h x hx).2
    omega
  rw [l, decide_eq_true (by omega)]
  rfl
theorem shaped_tup {ds : List PyData} (h : ∀ x ∈ ds, x.canLay0 = true ∧ x.depth ≤ 60) : SeqAt.shaped (.tuple ds) = true := by
  unfold SeqAt.shaped
  have l : (PyData.tuple ds).canLay0 = true := by
    simp only [PyData.canLay0]
    exact lays_ofF fun x hx => (h x hx).1
  have e : (PyData.tuple ds).depth ≤ 61 := by
    simp only [PyData.depth]
    have := deeps_ofF fun x hx => (h x hx).2
    omega
  rw [l, decide_eq_true (by omega)]
  rfl
theorem filterMap_cg {α β : Type} {f g : α → Option β} : ∀ (l : List α), (∀ x ∈ l, f x = g x) → l.filterMap f = l.filterMap g
  | [], _ => rfl
  | x :: r, h => by
    rw [List.filterMap_cons, List.filterMap_cons, h x List.mem_cons_self, filterMap_cg r fun y hy => h y (List.mem_cons_of_mem _ hy)]
theorem range_filter {α β : Type} (l : List α) (f : α → Option β) : (List.range l.length).filterMap (fun i => l[i]?.bind f) = l.filterMap f := by
  induction l with
  | nil => rfl
  | cons x r ih =>
    rw [List.length_cons, List.range_succ_eq_map, List.filterMap_cons, List.filterMap_map, List.filterMap_cons]
    have : List.filterMap ((fun i => (x :: r)[i]?.bind f) ∘ Nat.succ) (List.range r.length) = r.filterMap f := by
      rw [← ih]
      refine filterMap_cg _ fun i _ => ?_
      simp
    rw [this]
    simp
def itD (p : Str × Str) : PyData := .str (itS p)
theorem itsD_filter (kn W : List Str) (e : W.length = kn.length) : (List.range kn.length).filterMap (fun i => (kn.zip W)[i]?.bind fun p => if p.2 = Str.ofString "" then none else some (itD (p.2, p.1))) = (itsOf kn W).map itD := by
  have : kn.length = (kn.zip W).length := by rw [List.length_zip, e]; exact (Nat.min_self _).symm
  rw [this, range_filter]
  unfold itsOf
  rw [List.map_filterMap]
  refine filterMap_cg _ fun p _ => ?_
  split <;> simp
/-- what is known of items -/
structure ItsOk (its : List (Str × Str)) : Prop where
  n : its.length ≤ 999
  w : ∀ p ∈ its, WordOk p.1
  k : ∀ p ∈ its, KindOk p.2
theorem itsOk_of {kn W : List Str} (hn : kn.length ≤ 999) (hk : ∀ k ∈ kn, KindOk k) (hw : ∀ x ∈ W, x = Str.ofString "" ∨ WordOk x) : ItsOk (itsOf kn W) :=
  ⟨Nat.le_trans (its_len kn W) hn, fun p h => (hw _ (its_words h).1).resolve_left (its_words h).2.2, fun p h => hk _ (its_words h).2.1⟩
theorem ItsOk.perm {xs ys : List (Str × Str)} (h : ItsOk xs) (hp : ys.Perm xs) : ItsOk ys := ⟨hp.length_eq ▸ h.n, fun p z => h.w p (hp.mem_iff.mp z), fun p z => h.k p (hp.mem_iff.mp z)⟩
theorem strOk_of {x : Str} (h : ∀ c ∈ sgn x, c ≤ 122) : PyData.strOk x = true := by
  unfold PyData.strOk
  rw [Array.all_eq_true']
  intro c hc
  have := h c (Array.mem_toList_iff.mpr hc)
  exact decide_eq_true (by omega)
theorem sp1_sgn : sgn sp1 = [32] := by decide +kernel
theorem ItsOk.str {its : List (Str × Str)} (h : ItsOk its) : ∀ p ∈ its, PyData.strOk (itS p) = true := fun p hp => strOk_of fun c hc => by
  unfold itS at hc
  rw [sgn_app, sgn_app, sp1_sgn] at hc
  rcases List.mem_append.mp hc with hc | hc
  · rcases List.mem_append.mp hc with hc | hc
    · exact ((h.w p hp).ok c hc).2
    · rw [List.mem_singleton.mp hc]; decide
  · have := (h.k p hp).ok c hc
    omega
theorem ItsOk.len {its : List (Str × Str)} (h : ItsOk its) : ∀ p ∈ its, (itS p).length ≤ 83 := fun p hp => by
  have a1 := (h.w p hp).len
  have a2 := (h.k p hp).len
  have a3 : sp1.length = 1 := by decide +kernel
  unfold itS
  rw [Str.length_append, Str.length_append]
  omega
theorem text_join {its : List (Str × Str)} (h : its ≠ []) : Txt.join (Str.ofString " + ") (its.map itS) = textOf its := by
  unfold textOf itemsS
  rw [if_neg (by simpa using h)]
theorem text_nil : Str.ofString "nothing" = textOf [] := rfl
theorem eqv_its (its : List (Str × Str)) : PyData.eqv (.list (its.map itD)) (.list []) = its.isEmpty := by
  cases its with
  | nil => decide +kernel
  | cons p r => simp [PyData.eqv, PyData.eqvAll]
theorem shaped_its {its : List (Str × Str)} (h : ItsOk its) : SeqAt.shaped (.list (its.map itD)) = true := by
  refine shaped_lst fun x hx => ?_
  obtain ⟨p, hp, rfl⟩ := List.mem_map.mp hx
  simp [itD, PyData.canLay0, PyData.depth, h.str p hp]
theorem join_bound {its : List (Str × Str)} (h : ItsOk its) : ((its.map itS).map (·.length)).sum + (its.map itS).length * (Str.ofString " + ").length ≤ 16777216 := by
  have := sum_le (f := (·.length)) (b := 83) (its.map itS) fun x hx => by
    obtain ⟨p, hp, rfl⟩ := List.mem_map.mp hx
    exact h.len p hp
  have a3 : (Str.ofString " + ").length = 3 := by decide +kernel
  have := h.n
  rw [a3]
  rw [List.length_map] at *
  omega
theorem strsOf_its (its : List (Str × Str)) : strsOf (its.map itD) = some (its.map itS) := by
  have : its.map itD = (its.map itS).map PyData.str := by rw [List.map_map]; rfl
  rw [this, strsOf_map]
theorem items_end {its : List (Str × Str)} {R : Str → Prop} (hI : ItsOk its) (h : R (textOf its)) : SeqAt.shaped (PyData.list (its.map itD)) = true ∧ SeqAt.shaped (PyData.list []) = true ∧
    if (PyData.list (its.map itD)).eqv (PyData.list []) = true then R (Str.ofString "nothing")
    else ∃ x, strsOf (its.map itD) = some x ∧ (List.map (fun x => x.length) x).sum + x.length * (Str.ofString " + ").length ≤ 16777216 ∧ R (Txt.join (Str.ofString " + ") x) := by
  refine ⟨shaped_its hI, by decide +kernel, ?_⟩
  rw [eqv_its]
  cases its with
  | nil => exact h
  | cons p r =>
    rw [if_neg (by simp)]
    exact ⟨_, strsOf_its _, join_bound hI, by rw [text_join (by simp)]; exact h⟩
section
variable {P : Program} {w : World} {K : PySem.W.Frag} {mg : Str → Option Value} {base : Heap} {f T : Addr} {fd : FuncData} {Ps : List Addr}
end
end Fw


namespace Fw
open PySem PySem.Spec PyProof.Rows L2 GxR Gx Gy RZ Mint
/-! ### stocks and lines as texts -/
theorem lawWord_ok {e : Int} (h : okE e) : lawWord e = Str.ofString "" ∨ WordOk (lawWord e) := by
  unfold lawWord
  split
  · exact .inl rfl
  · exact .inr (entryS_ok h (by assumption))
theorem lawRange_ok {lo hi : Nat} (h1 : lo ≤ 10 ^ 30) (h2 : hi ≤ 10 ^ 30) : lawRange lo hi = Str.ofString "" ∨ WordOk (lawRange lo hi) := by
  unfold lawRange
  split
  · exact .inl rfl
  · exact .inr (rangeS_ok h1 h2)
abbrev stW (es : List Int) : List Str := es.map lawWord
def gvW (lo hi : List Int) : List Str := List.zipWith (fun a b => lawRange a.toNat b.toNat) lo hi
@[simp] theorem x_lw {K : PySem.W.Frag} {cs : List (Cn K)} {Q : Cn K → List (Cn K) → Prop} : g__law_word cs Q ↔ ∃ e : Int, cs = [.d (.int e)] ∧ okE e ∧ Q (.d (.str (lawWord e))) cs := Iff.rfl
def g__law_stock_text {K : PySem.W.Frag} : GF K := fun cs Q => ∃ (kn : List Str) (es : List Int) (b : Bool), cs = [.x (drawsO K), .d (.tuple (kn.map PyData.str)), .d (iD es), .d (.bool b)] ∧ es.length = kn.length ∧ kn.length ≤ 999 ∧ (∀ k ∈ kn, KindOk k) ∧ (∀ e ∈ es, okE e) ∧
  ∀ its, its.Perm (itsOf kn (stW es)) → (b = false → its = itsOf kn (stW es)) → Q (.d (.str (textOf its))) cs
theorem x_items {K : PySem.W.Frag} {kn W : List Str} {b : Bool} {Q : Cn K → List (Cn K) → Prop} (h : W.length = kn.length ∧ kn.length ≤ 999 ∧ (∀ k ∈ kn, KindOk k) ∧ (∀ x ∈ W, x = Str.ofString "" ∨ WordOk x) ∧
  ∀ its, its.Perm (itsOf kn W) → (b = false → its = itsOf kn W) → Q (.d (.str (textOf its))) [.x (drawsO K), .d (.tuple (kn.map PyData.str)), .l (W.map PyData.str), .d (.bool b)]) : g__law_items [.x (drawsO K), .d (.tuple (kn.map PyData.str)), .l (W.map PyData.str), .d (.bool b)] Q := ⟨kn, W, b, rfl, h⟩
section
variable {P : Program} {w : World} {K : PySem.W.Frag} {mg : Str → Option Value} {base : Heap} {f T : Addr} {fd : FuncData} {Ps : List Addr}
end
/-! ### books -/
abbrev Its := List (Str × Str)
abbrev Ln := Its × Its
def exLn (kn : List Str) (m : Mv) : Ln := (itsOf kn (stW m.take), itsOf kn (gvW m.low m.high))
structure LnOk (kn : List Str) (b : Bool) (m : Mv) (p : Ln) : Prop where
  t : p.1.Perm (exLn kn m).1
  g : p.2.Perm (exLn kn m).2
  e : b = false → p = exLn kn m
def lineS (m : Mv) (p : Ln) : Str := m.name ++ Str.ofString ": " ++ textOf p.1 ++ Str.ofString " -> " ++ textOf p.2
def headS (kn : List Str) : Str := Str.ofString "kinds " ++ Txt.join sp1 kn
def linesS (kn : List Str) (mv : List Mv) (ls : List Ln) : List Str := headS kn :: List.zipWith lineS mv ls
def bookT (kn : List Str) (mv : List Mv) (ls : List Ln) : Str := Txt.join (Str.ofString "\n") (linesS kn mv ls)
structure LnsOk (kn : List Str) (b : Bool) (mv : List Mv) (ls : List Ln) : Prop where
  n : ls.length = mv.length
  ok : ∀ (j : Nat) (m : Mv) (p : Ln), mv[j]? = some m → ls[j]? = some p → LnOk kn b m p
def g__law_book_text {K : PySem.W.Frag} : GF K := fun cs Q => ∃ kn mv b, cs = [.x (drawsO K), .d (bkD kn mv), .d (.bool b)] ∧ GoodBk kn mv ∧ ∀ ls, LnsOk kn b mv ls → Q (.d (.str (bookT kn mv ls))) cs
theorem _root_.Mint.GoodBk.kindOk {kn : List Str} {mv : List Mv} (h : GoodBk kn mv) : ∀ k ∈ kn, KindOk k := fun k hk => by
  obtain ⟨i, hi⟩ := List.mem_iff_getElem?.mp hk
  have := h.six
  have h2 := (List.getElem?_eq_some_iff.mp hi).1
  exact GoodName.kind (by omega) (h.kinds i k hi)
theorem _root_.Mint.GoodBk.nameOk {kn : List Str} {mv : List Mv} (h : GoodBk kn mv) {j : Nat} {m : Mv} (hj : mv[j]? = some m) : KindOk m.name := by
  have := h.eight
  have h2 := (List.getElem?_eq_some_iff.mp hj).1
  exact GoodName.kind (by omega) (h.moves j m hj).name
theorem small_ok {n : Nat} {es : List Int} (h : Small n 1000 es) : ∀ e ∈ es, okE e := fun e he => by
  have := h.2 e he
  exact .inr ⟨this.1, by omega⟩
theorem gvW_get {lo hi : List Int} {i : Nat} {x : Str} (h : (gvW lo hi)[i]? = some x) : ∃ a b, lo[i]? = some a ∧ hi[i]? = some b ∧ x = lawRange a.toNat b.toNat := by
  unfold gvW at h
  rw [List.getElem?_zipWith] at h
  cases e1 : lo[i]? with
  | none => rw [e1] at h; cases h
  | some a =>
    cases e2 : hi[i]? with
    | none => rw [e1, e2] at h; cases h
    | some b => rw [e1, e2] at h; cases h; exact ⟨a, b, rfl, rfl, rfl⟩
theorem gvW_ok {n : Nat} {lo hi : List Int} (h1 : Small n 1000 lo) (h2 : Small n 1000 hi) : ∀ x ∈ gvW lo hi, x = Str.ofString "" ∨ WordOk x := fun x hx => by
  obtain ⟨i, hi'⟩ := List.mem_iff_getElem?.mp hx
  obtain ⟨a, b, e1, e2, rfl⟩ := gvW_get hi'
  have := h1.2 a (List.mem_of_getElem? e1)
  have := h2.2 b (List.mem_of_getElem? e2)
  exact lawRange_ok (by omega) (by omega)
theorem stW_ok {es : List Int} (h : ∀ e ∈ es, okE e) : ∀ x ∈ stW es, x = Str.ofString "" ∨ WordOk x := fun x hx => by
  obtain ⟨e, h1, rfl⟩ := List.mem_map.mp hx
  exact lawWord_ok (h e h1)
theorem _root_.Mint.GoodBk.exOk {kn : List Str} {mv : List Mv} (h : GoodBk kn mv) {j : Nat} {m : Mv} (hj : mv[j]? = some m) : ItsOk (exLn kn m).1 ∧ ItsOk (exLn kn m).2 := by
  have g := h.moves j m hj
  have := h.six
  exact ⟨itsOk_of (by omega) h.kindOk (stW_ok (small_ok g.take)), itsOk_of (by omega) h.kindOk (gvW_ok g.low g.high)⟩
theorem text_len {its : Its} (h : ItsOk its) {n : Nat} (hn : its.length ≤ n) : (textOf its).length ≤ 7 + n * 86 := by
  cases its with
  | nil =>
    have : (textOf []).length = 7 := by decide +kernel
    omega
  | cons p r =>
    rw [← text_join (by simp)]
    have h1 := join_len (Str.ofString " + ") ((p :: r).map itS)
    have h2 := sum_le (f := (·.length)) (b := 83) ((p :: r).map itS) fun x hx => by
      obtain ⟨p, hp, rfl⟩ := List.mem_map.mp hx
      exact h.len p hp
    have a3 : (Str.ofString " + ").length = 3 := by decide +kernel
    rw [a3] at h1
    rw [List.length_map] at h1 h2
    obtain ⟨L, eL⟩ : ∃ L, L = (p :: r).length := ⟨_, rfl⟩
    rw [← eL] at h1 h2 hn
    omega
theorem line_len {kn : List Str} {mv : List Mv} (h : GoodBk kn mv) {b : Bool} {j : Nat} {m : Mv} (hj : mv[j]? = some m) {p : Ln} (hp : LnOk kn b m p) : (m.name.length ≤ 12 ∧ (textOf p.1).length ≤ 600 ∧ (textOf p.2).length ≤ 600) ∧ (lineS m p).length ≤ 1300 := by
  obtain ⟨h1, h2⟩ := h.exOk hj
  have h6 := h.six
  have l1 := text_len (n := 6) (h1.perm hp.t) (by rw [hp.t.length_eq]; exact Nat.le_trans (its_len ..) h6)
  have l2 := text_len (n := 6) (h2.perm hp.g) (by rw [hp.g.length_eq]; exact Nat.le_trans (its_len ..) h6)
  have l3 := (h.nameOk hj).len
  have a1 : (Str.ofString ": ").length = 2 := by decide +kernel
  have a2 : (Str.ofString " -> ").length = 4 := by decide +kernel
  refine ⟨⟨l3, by omega, by omega⟩, ?_⟩
  unfold lineS
  repeat rw [Str.length_append]
  omega
theorem head_len {kn : List Str} {mv : List Mv} (h : GoodBk kn mv) : ((kn.map (·.length)).sum + kn.length * sp1.length ≤ 100 ∧ (Txt.join sp1 kn).length ≤ 100) ∧ (headS kn).length ≤ 110 := by
  have h1 := join_len sp1 kn
  have h2 := sum_le (f := (·.length)) (b := 12) kn fun x hx => (h.kindOk x hx).len
  have a1 : sp1.length = 1 := by decide +kernel
  have a2 : (Str.ofString "kinds ").length = 6 := by decide +kernel
  have h6 := h.six
  rw [a1] at h1 ⊢
  refine ⟨⟨by omega, by omega⟩, ?_⟩
  unfold headS
  rw [Str.length_append]
  omega
theorem lines_snoc {mv : List Mv} {i : Nat} {m : Mv} (e : mv[i]? = some m) {ls : List Ln} (hl : ls.length = i) (p : Ln) (kn : List Str) : linesS kn (mv.take (i + 1)) (ls ++ [p]) = linesS kn (mv.take i) ls ++ [lineS m p] := by
  have hi := (List.getElem?_eq_some_iff.mp e).1
  unfold linesS
  rw [List.take_succ, e, Option.toList_some, List.zipWith_append (by rw [List.length_take]; omega)]
  rfl
theorem lines_len (kn : List Str) (mv : List Mv) (ls : List Ln) : (linesS kn mv ls).length ≤ 1 + mv.length := by
  unfold linesS
  rw [List.length_cons, List.length_zipWith]
  omega
theorem lines_bound {kn : List Str} {mv : List Mv} (h : GoodBk kn mv) {b : Bool} {ls : List Ln} (hl : LnsOk kn b mv ls) : ∀ x ∈ linesS kn mv ls, x.length ≤ 1300 := fun x hx => by
  rcases List.mem_cons.mp hx with rfl | hx
  · have := (head_len h).2
    omega
  · obtain ⟨i, hi⟩ := List.mem_iff_getElem?.mp hx
    rw [List.getElem?_zipWith] at hi
    cases e1 : mv[i]? with
    | none => rw [e1] at hi; cases hi
    | some a =>
      cases e2 : ls[i]? with
      | none => rw [e1, e2] at hi; cases hi
      | some p =>
        rw [e1, e2] at hi
        cases hi
        exact (line_len h e1 (hl.ok i a p e1 e2)).2
theorem book_bound {kn : List Str} {mv : List Mv} (h : GoodBk kn mv) {b : Bool} {ls : List Ln} (hl : LnsOk kn b mv ls) : ((linesS kn mv ls).map (·.length)).sum + (linesS kn mv ls).length * (Str.ofString "\n").length ≤ 16777216 := by
  have h1 := sum_le (f := (·.length)) (b := 1300) _ (lines_bound h hl)
  have h2 := lines_len kn mv ls
  have h3 := h.eight
  have a1 : (Str.ofString "\n").length = 1 := by decide +kernel
  rw [a1]
  omega
theorem take_good {mv : List Mv} {i j : Nat} {m : Mv} (h : (mv.take i)[j]? = some m) : mv[j]? = some m := by
  rw [List.getElem?_take] at h
  split at h
  · exact h
  · cases h
section
variable {P : Program} {w : World} {K : PySem.W.Frag} {mg : Str → Option Value} {base : Heap} {f T : Addr} {fd : FuncData} {Ps : List Addr}
end
end Fw


namespace Fw
open PySem PySem.Spec PyProof.Rows L2 GxR Gx Gy RZ Mint
/-! ### print_give, print_book -/
theorem empty_app (d : Str) : Str.empty ++ d = d := by
  show Str.append Str.empty d = d
  unfold Str.append
  show Str.mk _ = d
  simp [Str.empty]
theorem stock_its : ∀ (kn : List Str) (es : List Int), (∀ e ∈ es, okE e) → stockItems kn es = (itsOf kn (stW es)).map itS
  | [], _, _ => by simp [stockItems, itsOf]
  | k :: ks, [], _ => by simp [stockItems, itsOf, stW]
  | k :: ks, e :: es, h => by
    have ih := stock_its ks es fun x hx => h x (List.mem_cons_of_mem _ hx)
    unfold stockItems itsOf stW
    rw [List.map_cons, List.zip_cons_cons, List.filterMap_cons]
    by_cases he : e = 0
    · have e1 : lawWord e = Str.ofString "" := by unfold lawWord; rw [if_pos he]
      rw [if_pos he, ih]
      simp only [e1, if_true]
      rfl
    · have e1 : lawWord e = entryS e := by unfold lawWord; rw [if_neg he]
      have e2 := (entryS_ok (h e List.mem_cons_self) he).ne
      rw [if_neg he, ih]
      simp only [e1, if_neg e2]
      rfl
theorem stock_text {kn : List Str} {es : List Int} (h : ∀ e ∈ es, okE e) : stockS kn es = textOf (itsOf kn (stW es)) := by
  unfold stockS textOf
  rw [stock_its kn es h]
theorem give_its : ∀ (kn : List Str) (lo hi : List Int), (∀ e ∈ lo, 0 ≤ e ∧ e ≤ 1000) → (∀ e ∈ hi, 0 ≤ e ∧ e ≤ 1000) → ((kn.zip (lo.zip hi)).filterMap fun p => if p.2.2 = 0 then none else some (itD (rangeS p.2.1.toNat p.2.2.toNat, p.1))) = (itsOf kn (gvW lo hi)).map itD
  | [], _, _, _, _ => by simp [itsOf]
  | k :: ks, [], _, _, _ => by simp [itsOf, gvW]
  | k :: ks, _ :: _, [], _, _ => by simp [itsOf, gvW]
  | k :: ks, a :: lo, b :: hi, h1, h2 => by
    have ih := give_its ks lo hi (fun x hx => h1 x (List.mem_cons_of_mem _ hx)) fun x hx => h2 x (List.mem_cons_of_mem _ hx)
    have ha := h1 a List.mem_cons_self
    have hb := h2 b List.mem_cons_self
    unfold itsOf gvW at ih ⊢
    rw [List.zipWith_cons_cons, List.zip_cons_cons, List.zip_cons_cons, List.zip_cons_cons, List.filterMap_cons, List.filterMap_cons]
    by_cases he : b = 0
    · have e1 : lawRange a.toNat b.toNat = Str.ofString "" := by unfold lawRange; rw [if_pos (by omega)]
      simp only [e1, if_true, he]
      exact ih
    · have e1 : lawRange a.toNat b.toNat = rangeS a.toNat b.toNat := by unfold lawRange; rw [if_neg (by omega)]
      have e2 := (rangeS_ok (lo := a.toNat) (hi := b.toNat) (by omega) (by omega)).ne
      simp only [e1, if_neg e2, if_neg he]
      rw [ih]
      rfl
def g_print_give {K : PySem.W.Frag} : GF K := fun cs Q => ∃ (kn : List Str) (lo hi : List Int), cs = [.d (.tuple (kn.map PyData.str)), .d (iD lo), .d (iD hi)] ∧ Small kn.length 1000 lo ∧ Small kn.length 1000 hi ∧ kn.length ≤ 999 ∧ (∀ k ∈ kn, KindOk k) ∧ Q (.d (.str (textOf (itsOf kn (gvW lo hi))))) cs
@[simp] theorem x_pitems {K : PySem.W.Frag} {cs : List (Cn K)} {Q : Cn K → List (Cn K) → Prop} : g_print_items cs Q ↔ ∃ xs : List Str, cs = [.l (xs.map PyData.str)] ∧ xs.length ≤ 1000 ∧ (∀ x ∈ xs, x.length ≤ 1000) ∧ Q (.d (.str (itemsS xs))) cs := Iff.rfl
theorem x_prange {K : PySem.W.Frag} {a b : Int} {Q : Cn K → List (Cn K) → Prop} (h : (0 ≤ a ∧ a ≤ 1000) ∧ (0 ≤ b ∧ b ≤ 1000) ∧ Q (.d (.str (rangeS a.toNat b.toNat))) [.d (.int a), .d (.int b)]) : g_print_range [.d (.int a), .d (.int b)] Q :=
  ⟨a.toNat, b.toNat, by rw [Int.toNat_of_nonneg h.1.1, Int.toNat_of_nonneg h.2.1.1], by have := h.1.2; omega, by have := h.2.1.2; omega, h.2.2⟩
section
variable {P : Program} {w : World} {K : PySem.W.Frag} {mg : Str → Option Value} {base : Heap} {f T : Addr} {fd : FuncData} {Ps : List Addr}
def exLns (kn : List Str) (mv : List Mv) : List Ln := mv.map (exLn kn)
theorem exLns_ok (kn : List Str) (mv : List Mv) (b : Bool) : LnsOk kn b mv (exLns kn mv) := ⟨by unfold exLns; rw [List.length_map], fun j m p h1 h2 => by
  unfold exLns at h2
  rw [List.getElem?_map, h1] at h2
  cases h2
  exact ⟨.refl _, .refl _, fun _ => rfl⟩⟩
def g_print_book {K : PySem.W.Frag} : GF K := fun cs Q => ∃ kn mv, cs = [.d (bkD kn mv)] ∧ GoodBk kn mv ∧ Q (.d (.str (bookT kn mv (exLns kn mv)))) cs
theorem x_pstock {K : PySem.W.Frag} {kn : List Str} {ms : List PyData} {es : List Int} {Q : Cn K → List (Cn K) → Prop} (h : es.length = kn.length ∧ kn.length ≤ 1000 ∧ (∀ k ∈ kn, KindOk k) ∧ (∀ e ∈ es, okE e) ∧ Q (.d (.str (textOf (itsOf kn (stW es))))) [.d (bookD (kn.map PyData.str) ms), .d (iD es)]) : g_print_stock [.d (bookD (kn.map PyData.str) ms), .d (iD es)] Q :=
  ⟨kn, ms, es, rfl, h.1, h.2.1, fun k hk => (h.2.2.1 k hk).len, h.2.2.2.1, by rw [stock_text h.2.2.2.1]; exact h.2.2.2.2⟩
end
end Fw


namespace Fw
open PySem PySem.Spec PyProof.Rows L2 GxR Gx Gy RZ Mint
/-! ### runs as texts -/
def jn (xs : List Str) : Str := if xs = [] then Str.ofString "nothing" else Txt.join (Str.ofString "; ") xs
def nmS (mv : List Mv) (j : Nat) : Str := (mv[j]?.map (·.name)).getD Str.empty
mutual
def stT (mv : List Mv) : RSt → Str
  | .mv j => nmS mv j
  | .rep k r => numS k ++ Str.ofString " x (" ++ jn (stTs mv r) ++ Str.ofString ")"
def stTs (mv : List Mv) : List RSt → List Str
  | [] => []
  | s :: r => stT mv s :: stTs mv r
end
abbrev rnT (mv : List Mv) (r : List RSt) : Str := jn (stTs mv r)
theorem stTs_map (mv : List Mv) : ∀ r : List RSt, stTs mv r = r.map (stT mv)
  | [] => rfl
  | s :: r => by rw [stTs, stTs_map mv r]; rfl
abbrev tt3 : Nat × Nat := (10 ^ 30, 3)
theorem jn_len {xs : List Str} {b : Nat} (h : ∀ x ∈ xs, x.length ≤ b) (hl : xs.length ≤ 3) : (xs.map (·.length)).sum + xs.length * (Str.ofString "; ").length ≤ 3 * b + 6 ∧ (jn xs).length ≤ 3 * b + 7 := by
  have h1 := sum_le (f := (·.length)) xs h
  have h2 := join_len (Str.ofString "; ") xs
  have a1 : (Str.ofString "; ").length = 2 := by decide +kernel
  have a2 : (Str.ofString "nothing").length = 7 := by decide +kernel
  have h3 : xs.length * b ≤ 3 * b := Nat.mul_le_mul_right b hl
  rw [a1] at h2 ⊢
  refine ⟨by omega, ?_⟩
  unfold jn
  split
  · omega
  · omega
theorem nm_ok {kn : List Str} {mv : List Mv} (h : GoodBk kn mv) {j : Nat} (hj : j < mv.length) : ∃ m, mv[j]? = some m ∧ nmS mv j = m.name ∧ KindOk m.name := by
  have e : mv[j]? = some mv[j] := List.getElem?_eq_getElem hj
  exact ⟨_, e, by unfold nmS; rw [e]; rfl, h.nameOk e⟩
theorem st_len {kn : List Str} {mv : List Mv} (h : GoodBk kn mv) : ∀ (d : Nat) (s : RSt), GSt mv.length tt3 d s → (stT mv s).length ≤ 60 * 4 ^ d
  | 0, s, hs => by
    obtain ⟨m, rfl, hm⟩ := hs
    obtain ⟨x, _, e, k⟩ := nm_ok h hm
    unfold stT
    rw [e]
    have := k.len
    omega
  | d + 1, s, hs => by
    rcases hs with ⟨m, rfl, hm⟩ | ⟨k, r, rfl, h1, h2, h3, h4, h5⟩
    · obtain ⟨x, _, e, k⟩ := nm_ok h hm
      unfold stT
      rw [e]
      have := k.len
      have : 1 ≤ 4 ^ (d + 1) := Nat.pow_pos (by decide)
      omega
    · have h6 := (jn_len (b := 60 * 4 ^ d) (xs := stTs mv r) (fun x hx => by
        rw [stTs_map] at hx
        obtain ⟨s, hs, rfl⟩ := List.mem_map.mp hx
        exact st_len h d s (h5 s hs)) (by rw [stTs_map, List.length_map]; exact h4)).2
      have a1 : (Str.ofString " x (").length = 4 := by decide +kernel
      have a2 : (Str.ofString ")").length = 1 := by decide +kernel
      have a3 := numS_len h2
      have : 1 ≤ 4 ^ d := Nat.pow_pos (by decide)
      unfold stT
      rw [Str.length_append, Str.length_append, Str.length_append, Nat.pow_succ]
      omega
theorem pow46 {k : Nat} (h : k ≤ 6) : 4 ^ k ≤ 4096 := Nat.pow_le_pow_right (by omega) h
theorem rn_len {kn : List Str} {mv : List Mv} (h : GoodBk kn mv) {k : Nat} {r : List RSt} (hr : GRn mv.length tt3 k r) (hk : k ≤ 6) : (((stTs mv r).map (·.length)).sum + (stTs mv r).length * (Str.ofString "; ").length ≤ 16777216 ∧ (rnT mv r).length ≤ 1000000) ∧ ∀ x ∈ stTs mv r, x.length ≤ 1000000 := by
  have hb : ∀ x ∈ stTs mv r, x.length ≤ 60 * 4 ^ k := fun x hx => by
    rw [stTs_map] at hx
    obtain ⟨s, hs, rfl⟩ := List.mem_map.mp hx
    exact st_len h k s (hr.all s hs)
  have h6 := jn_len hb (by rw [stTs_map, List.length_map]; exact hr.three)
  have := pow46 hk
  exact ⟨⟨by omega, by show (jn (stTs mv r)).length ≤ _; omega⟩, fun x hx => by have := hb x hx; omega⟩
theorem log_num {c : Nat} (h : c ≤ 10 ^ 30) : c.log2 < 1920 := by
  by_cases hc : c = 0
  · subst hc; decide
  · rw [Nat.log2_lt hc]; exact Nat.lt_of_le_of_lt h (by decide)
def g_print_step {K : PySem.W.Frag} (N : Nat) : GF K := fun cs Q => ∃ kn mv s k, cs = [.d (bkD kn mv), .d (stD s)] ∧ GoodBk kn mv ∧ k < N ∧ k ≤ 6 ∧ GSt mv.length tt3 k s ∧ Q (.d (.str (stT mv s))) cs
def g_print_run {K : PySem.W.Frag} (N : Nat) : GF K := fun cs Q => ∃ kn mv r k, cs = [.d (bkD kn mv), .d (.tuple (rnD r))] ∧ GoodBk kn mv ∧ k < N ∧ k ≤ 6 ∧ GRn mv.length tt3 k r ∧ Q (.d (.str (rnT mv r))) cs
def g__law_run_text {K : PySem.W.Frag} (N : Nat) : GF K := fun cs Q => ∃ kn mv r k, cs = [.d (bkD kn mv), .d (.tuple (rnD r))] ∧ GoodBk kn mv ∧ k < N ∧ k ≤ 6 ∧ GRn mv.length tt3 k r ∧ Q (.d (.str (rnT mv r))) cs
theorem x_pnum {K : PySem.W.Frag} {k : Nat} {Q : Cn K → List (Cn K) → Prop} (h : k ≤ 10 ^ 30 ∧ Q (.d (.str (numS k))) [.d (.int k)]) : g_print_number [.d (.int k)] Q := ⟨k, rfl, h⟩
theorem rnD_isE (r : List RSt) : (rnD r).isEmpty = r.isEmpty := by cases r <;> rfl
section
variable {P : Program} {w : World} {K : PySem.W.Frag} {mg : Str → Option Value} {base : Heap} {f T : Addr} {fd : FuncData} {Ps : List Addr}
abbrev sprint_step : Stmt := top 20
theorem scprint_step : FnScope ["book", "step"] ["book", "step"] (defScope sprint_step) := ⟨rfl, rfl, rfl, by decide +kernel, rfl, by decide +kernel, by decide +kernel⟩
theorem ok_print_step {N lv : Nat} (F : Fun K "print_step" "print_step" sprint_step f fd) (G : Glb mg) (hlv : 1 ≤ lv) (D_print_number : Def P w K mg base "print_number" (1) ["number"] (spA K Ps g_print_number)) (D_print_run : Def P w K mg base "print_run" (lv) ["book", "run"] (spA K Ps (g_print_run N))) : FnOk P w K mg base CX0 (lv + 1) f fd ["book", "step"] (spA K Ps (g_print_step (N + 1))) := by
  refine ok_fn F scprint_step (fun cs Q' h => ?_) (by decide) fun cdv A outer s H E hr => ?_
  · obtain ⟨kn, mv, s, k, rfl, hB, hk, hk2, hs, h⟩ := h
    rfl
  have nd := scprint_step.nd
  refine ⟨_, ?fs, (pss_cons (ps_if (pt_cmpR op_eq (pe_ix ix_tup (pv 1) pe_int (fun _ _ => rfl)) pe_str (nomark _)) (pss_one (ps_ret (pe_ix ix_tup (pe_ix ix_tup (pe_ix ix_tup (pv 0) pe_int (fun _ _ => rfl)) (pe_ix ix_tup (pv 1) pe_int (fun _ _ => rfl)) (fun _ _ => rfl)) pe_int (fun _ _ => rfl)))) pss_nil)
    (pss_one (ps_ret (fe_joined (.cons (pe_fmt (pe_c D_print_number (hr.mono (by omega)) (pa_cons (pe_ix ix_tup (pv 1) pe_int (fun _ _ => rfl)) pa_nil))) (.cons pe_str (.cons (pe_fmt (pe_c D_print_run (hr) (pa_cons (pv 0) (pa_cons (pe_ix ix_tup (pv 1) pe_int (fun _ _ => rfl)) pa_nil)))) (.cons pe_str .nil)))))))), ?inst, fun cs Q' hg => ?body⟩
  case inst =>
    dsimp only [cxOf, Cx.nox, Cx.wish, List.map]
    infer_instance
  case body =>
    obtain ⟨kn, mv, s, k, rfl, hB, hk, hk2, hs, h⟩ := hg
    have b0 : Str.empty.length = 0 := by decide +kernel
    have z1 : 10000000 ≤ sizeLine := by decide
    have mvC : ∀ j, s = .mv j → j < mv.length → True := fun _ _ _ => trivial
    cases s with
    | mv j =>
      have hj : j < mv.length := by
        cases k with
        | zero => obtain ⟨m, e, h⟩ := hs; cases e; exact h
        | succ k =>
          rcases hs with ⟨m, e, h⟩ | ⟨_, _, e, _⟩
          · cases e; exact h
          · cases e
      obtain ⟨m, e1, e2, e3⟩ := nm_ok hB hj
      have a1 : atI (mv.map moveD) (j : Int) = some (moveD m) := atI_nat (by rw [List.getElem?_map, e1]; rfl)
      rw [show stT mv (.mv j) = m.name from e2] at h
      simp [and_assoc, stD, bookD, a1, moveD]
      exact h
    | rep c r =>
      cases k with
      | zero => obtain ⟨m, e, h⟩ := hs; cases e
      | succ k =>
        rcases hs with ⟨m, e, _⟩ | ⟨c', r', e, h1, h2, h3, h4, h5⟩
        · cases e
        cases e
        have hne : ¬ Str.ofString "rep" = Str.ofString "do" := by decide +kernel
        have hr' : GRn mv.length tt3 k r := ⟨h4, h5⟩
        have l1 := (rn_len hB hr' (by omega)).1.2
        have l2 := numS_len h2
        have a1 : (Str.ofString " x (").length = 4 := by decide +kernel
        have a2 : (Str.ofString ")").length = 1 := by decide +kernel
        simp [and_assoc, stD, hne]
        refine x_pnum ⟨h2, ?_⟩
        simp [and_assoc, Str.length_append, b0]
        refine ⟨by omega, by omega, kn, mv, r, k, rfl, hB, by omega, by omega, hr', ?_⟩
        simp [and_assoc, Str.length_append, b0]
        refine ⟨by omega, by omega, by omega, ?_⟩
        rw [empty_app]
        exact h
abbrev sprint_run : Stmt := top 19
theorem scprint_run : FnScope ["book", "run", "step"] ["book", "run"] (defScope sprint_run) := ⟨rfl, rfl, rfl, by decide +kernel, rfl, by decide +kernel, by decide +kernel⟩
theorem ok_print_run {N lv : Nat} (F : Fun K "print_run" "print_run" sprint_run f fd) (G : Glb mg) (hlv : 1 ≤ lv) (D_print_step : Def P w K mg base "print_step" (lv) ["book", "step"] (spA K Ps (g_print_step N))) : FnOk P w K mg base CX0 (lv + 1) f fd ["book", "run"] (spA K Ps (g_print_run N)) := by
  refine ok_fn F scprint_run (fun cs Q' h => ?_) (by decide) fun cdv A outer s H E hr => ?_
  · obtain ⟨kn, mv, r, k, rfl, hB, hk, hk2, hs, h⟩ := h
    rfl
  have nd := scprint_run.nd
  refine ⟨_, ?fs, (pss_one (ps_ret (pe_ifExp (ft_truth (pv 1) (by intro _; rfl)) (fe_join pe_str (pe_lc (own := [("step", 2)]) (g := (gName 2)) (te := (tCall (spA K Ps (g_print_step N)) [] E0 (tCons (tVar 0) (tCons (tVar 2) tNil)))) (tt := tYes) rfl nd (pi_tup (pv 1)) (blkOk_by (own := [("step", 2)]) (N := ["book", "run", "step"]) (sc := defScope sprint_run) (by decide +kernel)) (fun _ _ _ _ _ => (pg_name (i := 2) nd rfl (Or.inl rfl))) (fun _ _ _ _ _ => pts_nil) (fun _ _ _ _ _ => (pe_c D_print_step (hr) (pa_cons (pv 0) (pa_cons (pv 2) pa_nil)))))) pe_str))), ?inst, fun cs Q' hg => ?body⟩
  case inst =>
    dsimp only [cxOf, Cx.nox, Cx.wish, List.map]
    infer_instance
  case body =>
    obtain ⟨kn, mv, r, k, rfl, hB, hk, hk2, hs, h⟩ := hg
    have h3 := hs.three
    have l1 := rn_len hB hs hk2
    simp [and_assoc, rnD_isE]
    cases r with
    | nil => exact .inl ⟨rfl, h⟩
    | cons x r =>
      obtain ⟨R, eR⟩ : ∃ R, R = x :: r := ⟨_, rfl⟩
      have hR : R.isEmpty = false := by rw [eR]; rfl
      have hne : ¬ stTs mv R = [] := by rw [eR, stTs]; simp
      rw [← eR] at hs h h3 l1 ⊢
      refine .inr ⟨by rw [eR]; simp, ?_⟩
      rw [rnD_map]
      refine compF_map stD (fun s => PyData.str (stT mv s)) R trivial (by have : R.length ≤ 3 := h3; omega) (fun x hx T hT => ?_) ?_
      · simp [and_assoc]
        refine ⟨kn, mv, x, k, rfl, hB, hk, hk2, hs.all x hx, ?_⟩
        simp
        exact hT _ rfl rfl
      · have e1 : R.map (fun s => PyData.str (stT mv s)) = (stTs mv R).map PyData.str := by rw [stTs_map, List.map_map]; rfl
        rw [e1]
        simp [and_assoc]
        refine ⟨l1.1.1, ?_⟩
        unfold rnT jn at h
        rw [if_neg hne, rnD_map] at h
        exact h
theorem join_mem {a : Str} {c : Nat} : ∀ {xs : List Str}, c ∈ sgn (Txt.join a xs) → c ∈ sgn a ∨ ∃ x ∈ xs, c ∈ sgn x := by
  intro xs
  unfold Txt.join
  rw [StrLaws.glued_eq_join]
  induction xs with
  | nil =>
    intro h
    have e : sgn (Str.join a []) = [] := by show sgn (Str.ofString "") = []; decide +kernel
    rw [e] at h
    cases h
  | cons x r ih =>
    cases r with
    | nil => exact fun h => .inr ⟨x, List.mem_cons_self, h⟩
    | cons y r =>
      intro h
      have h' : c ∈ sgn ((x ++ a) ++ Str.join a (y :: r)) := h
      rw [sgn_app, sgn_app] at h'
      rcases List.mem_append.mp h' with h | h
      · rcases List.mem_append.mp h with h | h
        · exact .inr ⟨x, List.mem_cons_self, h⟩
        · exact .inl h
      · rcases ih h with h | ⟨z, h1, h2⟩
        · exact .inl h
        · exact .inr ⟨z, List.mem_cons_of_mem _ h1, h2⟩
theorem jn_signs {xs : List Str} (h : ∀ x ∈ xs, ∀ c ∈ sgn x, c ≤ 122) : ∀ c ∈ sgn (jn xs), c ≤ 122 := fun c hc => by
  unfold jn at hc
  split at hc
  · exact (by decide +kernel : ∀ c ∈ sgn (Str.ofString "nothing"), c ≤ 122) c hc
  · rcases join_mem hc with hc | ⟨x, h1, h2⟩
    · exact (by decide +kernel : ∀ c ∈ sgn (Str.ofString "; "), c ≤ 122) c hc
    · exact h x h1 c h2
theorem st_signs {kn : List Str} {mv : List Mv} (h : GoodBk kn mv) : ∀ (d : Nat) (s : RSt), GSt mv.length tt3 d s → ∀ c ∈ sgn (stT mv s), c ≤ 122
  | 0, s, hs => by
    obtain ⟨m, rfl, hm⟩ := hs
    obtain ⟨x, _, e, k⟩ := nm_ok h hm
    intro c hc
    unfold stT at hc
    rw [e] at hc
    have := k.ok c hc
    omega
  | d + 1, s, hs => by
    rcases hs with ⟨m, rfl, hm⟩ | ⟨k, r, rfl, h1, h2, h3, h4, h5⟩
    · obtain ⟨x, _, e, k⟩ := nm_ok h hm
      intro c hc
      unfold stT at hc
      rw [e] at hc
      have := k.ok c hc
      omega
    · intro c hc
      unfold stT at hc
      rw [sgn_app, sgn_app, sgn_app] at hc
      rcases List.mem_append.mp hc with hc | hc
      · rcases List.mem_append.mp hc with hc | hc
        · rcases List.mem_append.mp hc with hc | hc
          · have := numS_in hc
            omega
          · exact (by decide +kernel : ∀ c ∈ sgn (Str.ofString " x ("), c ≤ 122) c hc
        · refine jn_signs (fun x hx => ?_) c hc
          rw [stTs_map] at hx
          obtain ⟨s, hs, rfl⟩ := List.mem_map.mp hx
          exact st_signs h d s (h5 s hs)
      · exact (by decide +kernel : ∀ c ∈ sgn (Str.ofString ")"), c ≤ 122) c hc
theorem eqv_strs (xs : List Str) : PyData.eqv (.list (xs.map PyData.str)) (.list []) = xs.isEmpty := by
  cases xs with
  | nil => decide +kernel
  | cons p r => simp [PyData.eqv, PyData.eqvAll]
theorem shaped_strs {xs : List Str} (h : ∀ x ∈ xs, ∀ c ∈ sgn x, c ≤ 122) : SeqAt.shaped (.list (xs.map PyData.str)) = true := shaped_lst fun d hd => by
  obtain ⟨x, hx, rfl⟩ := List.mem_map.mp hd
  simp [PyData.canLay0, PyData.depth, strOk_of (h x hx)]
abbrev s_law_run_text : Stmt := top 56
theorem sc_law_run_text : FnScope ["book", "run", "words", "step"] ["book", "run"] (defScope s_law_run_text) := ⟨rfl, rfl, rfl, by decide +kernel, rfl, by decide +kernel, by decide +kernel⟩
theorem ok__law_run_text {N lv : Nat} (F : Fun K "_law_run_text" "_law_run_text" s_law_run_text f fd) (G : Glb mg) (hlv : 1 ≤ lv) (D__law_run_text : Def P w K mg base "_law_run_text" (lv) ["book", "run"] (spA K Ps (g__law_run_text N))) : FnOk P w K mg base CX0 (lv + 1) f fd ["book", "run"] (spA K Ps (g__law_run_text (N + 1))) := by
  refine ok_fn F sc_law_run_text (fun cs Q' h => ?_) (by decide) fun cdv A outer s H E hr => ?_
  · obtain ⟨kn, mv, r, k, rfl, hB, hk, hk2, hs, h⟩ := h
    rfl
  have nd := sc_law_run_text.nd
  refine ⟨_, ?fs, (pss_cons (ps_set (i := 2) nd rfl (Or.inl rfl) (pe_lst pa_nil))
    (pss_cons (ps_for PassesOwn.never rfl (pi_tup (pv 1)) (pg_name (i := 3) nd rfl (Or.inl rfl)) (pss_one (ps_if (pt_cmpR op_eq (pe_ix ix_tup (pv 3) pe_int (fun _ _ => rfl)) pe_str (nomark _)) (pss_one (ps_expr (pe_bm PySem.F.plainAttrs_list PySem.F.slot_list_append PySem.F.type_list_append mt_append (pv 2) (pa_cons (pe_ix ix_tup (pe_ix ix_tup (pe_ix ix_tup (pv 0) pe_int (fun _ _ => rfl)) (pe_ix ix_tup (pv 3) pe_int (fun _ _ => rfl)) (fun _ _ => rfl)) pe_int (fun _ _ => rfl)) pa_nil)))) (pss_one (ps_expr (pe_bm PySem.F.plainAttrs_list PySem.F.slot_list_append PySem.F.type_list_append mt_append (pv 2) (pa_cons (pe_op fo_catS (pe_op fo_catS (pe_op fo_catS (pe_callTy cr_str rfl G.str (by decide +kernel) (pa_cons (pe_ix ix_tup (pv 3) pe_int (fun _ _ => rfl)) pa_nil)) pe_str) (pe_c D__law_run_text (hr) (pa_cons (pv 0) (pa_cons (pe_ix ix_tup (pv 3) pe_int (fun _ _ => rfl)) pa_nil)))) pe_str) pa_nil)))))))
    (pss_one (ps_ret (pe_ifExp (pt_cmpR (fo_eqC hr.units) (pv 2) (pe_lst pa_nil) (nomark _)) pe_str (fe_join pe_str (pv 2))))))), ?inst, fun cs Q' hg => ?body⟩
  case inst =>
    dsimp only [cxOf, Cx.nox, Cx.wish, List.map]
    infer_instance
  case body =>
    obtain ⟨kn, mv, r, k, rfl, hB, hk, hk2, hs, h⟩ := hg
    have h3 : r.length ≤ 3 := hs.three
    have l1 := rn_len hB hs hk2
    have z1 : 10000000 ≤ sizeLine := by decide
    simp [and_assoc]
    rw [rnD_map]
    refine forF_idx stD (fun (i : Nat) s => ∃ (c3 : SC K), s = [.f (.d (bkD kn mv)), .f (.d (.tuple (r.map stD))), .f (.l ((stTs mv (r.take i)).map PyData.str)), c3] ∧ blS c3 = true) r (fun _ _ _ => trivial) ⟨.e, by simp [stTs], rfl⟩ (fun i s x hx ⟨c3, es, b3⟩ N hN => ?_) (fun s ⟨c3, es, b3⟩ => ?_)
    · subst es
      have hxm := List.mem_of_getElem? hx
      have hg := hs.all x hxm
      have hst : N [.f (.d (bkD kn mv)), .f (.d (.tuple (r.map stD))), .f (.l ((stTs mv (r.take i)).map PyData.str ++ [.str (stT mv x)])), .f (.d (stD x))] := hN _ ⟨_, by rw [List.take_succ, hx, Option.toList_some, stTs_map, stTs_map, List.map_append, List.map_append]; rfl, rfl⟩
      have hlen : ((stTs mv (r.take i)).map PyData.str).length < 1000 := by rw [List.length_map, stTs_map, List.length_map, List.length_take]; omega
      cases x with
      | mv j =>
        have hj : j < mv.length := by
          cases k with
          | zero => obtain ⟨m, e, h⟩ := hg; cases e; exact h
          | succ k =>
            rcases hg with ⟨m, e, h⟩ | ⟨_, _, e, _⟩
            · cases e; exact h
            · cases e
        obtain ⟨m, e1, e2, e3⟩ := nm_ok hB hj
        have a1 : atI (mv.map moveD) (j : Int) = some (moveD m) := atI_nat (by rw [List.getElem?_map, e1]; rfl)
        rw [show stT mv (.mv j) = m.name from e2] at hst
        simp [and_assoc, can_bl b3, stD, bookD, a1, moveD]
        exact ⟨by simpa using hlen, hst⟩
      | rep c q =>
        cases k with
        | zero => obtain ⟨m, e, h⟩ := hg; cases e
        | succ k =>
          rcases hg with ⟨m, e, _⟩ | ⟨c', r', e, h1, h2, h3', h4, h5⟩
          · cases e
          cases e
          have hne : ¬ Str.ofString "rep" = Str.ofString "do" := by decide +kernel
          have hr' : GRn mv.length tt3 k q := ⟨h4, h5⟩
          have l1 := (rn_len hB hr' (by omega)).1.2
          have l2 := numS_len h2
          have a1 : (Str.ofString " x (").length = 4 := by decide +kernel
          have a2 : (Str.ofString ")").length = 1 := by decide +kernel
          simp [and_assoc, can_bl b3, stD, hne]
          rw [show Str.ofString (Int.repr (c : Int)) = numS c from rfl]
          refine ⟨log_num h2, by omega, kn, mv, q, k, rfl, hB, by omega, by omega, hr', ?_⟩
          simp [and_assoc, Str.length_append]
          exact ⟨by omega, by omega, by simpa using hlen, hst⟩
    · subst es
      rw [List.take_length]
      simp [and_assoc]
      have hsg : ∀ x ∈ stTs mv r, ∀ c ∈ sgn x, c ≤ 122 := fun x hx => by
        rw [stTs_map] at hx
        obtain ⟨s, hs', rfl⟩ := List.mem_map.mp hx
        exact st_signs hB k s (hs.all s hs')
      refine ⟨shaped_strs hsg, by decide +kernel, ?_⟩
      rw [eqv_strs]
      unfold rnT jn at h
      rw [rnD_map] at h
      cases hL : stTs mv r with
      | nil =>
        rw [hL] at h
        exact h
      | cons y ys =>
        rw [hL] at h l1
        rw [if_neg (by simp)] at h
        rw [if_neg (by simp)]
        exact ⟨l1.1.1, h⟩
end
end Fw


namespace Mint
open PySem PySem.Spec PyProof.Rows L2 GxR Gx RZ

/-! ### which books are none -/
theorem any_mem {σ : List Str} {v : Str} : σ.any (· == v) = true ↔ v ∈ σ := by
  rw [List.any_eq_true]
  constructor
  · rintro ⟨x, hx, e⟩
    rw [beq_iff_eq] at e
    rw [← e]; exact hx
  · exact fun h => ⟨v, h, by rw [beq_iff_eq]⟩
theorem ddS_mem {σ : List Str} {x : Str} (h : x ∈ σ) : ddS σ x = σ := by
  unfold ddS
  rw [if_pos (any_mem.mpr h)]
theorem ddS_not {σ : List Str} {x : Str} (h : x ∉ σ) : ddS σ x = σ ++ [x] := by
  unfold ddS
  rw [if_neg fun z => h (any_mem.mp z)]
theorem fold_nodup : ∀ (xs σ : List Str), (xs.foldl ddS σ).length = σ.length + xs.length → xs.Nodup ∧ ∀ x ∈ xs, x ∉ σ
  | [], _, _ => ⟨List.nodup_nil, fun x hx => by cases hx⟩
  | x :: xs, σ, h => by
    rw [List.foldl_cons, List.length_cons] at h
    by_cases hx : x ∈ σ
    · rw [ddS_mem hx] at h
      have := fold_le xs σ
      omega
    · rw [ddS_not hx] at h
      obtain ⟨a, b⟩ := fold_nodup xs (σ ++ [x]) (by rw [h, List.length_append]; simp; omega)
      refine ⟨List.nodup_cons.mpr ⟨fun z => b x z (List.mem_append_right _ List.mem_cons_self), a⟩, fun y hy => ?_⟩
      rcases List.mem_cons.mp hy with e | hy
      · rw [e]; exact hx
      · exact fun z => b y hy (List.mem_append_left _ z)
theorem nodup_fold : ∀ (xs σ : List Str), xs.Nodup → (∀ x ∈ xs, x ∉ σ) → (xs.foldl ddS σ).length = σ.length + xs.length
  | [], _, _, _ => rfl
  | x :: xs, σ, h, hs => by
    rw [List.foldl_cons, ddS_not (hs x List.mem_cons_self)]
    obtain ⟨h1, h2⟩ := List.nodup_cons.mp h
    rw [nodup_fold xs (σ ++ [x]) h2 fun y hy z => ?_]
    · rw [List.length_append, List.length_cons]; simp; omega
    · rcases List.mem_append.mp z with z | z
      · exact hs y (List.mem_cons_of_mem _ hy) z
      · rw [List.mem_singleton.mp z] at hy
        exact h1 hy
theorem dedup_nodup {xs : List Str} (h : (dedup xs).length = xs.length) : xs.Nodup := (fold_nodup xs [] (by rw [List.length_nil, Nat.zero_add]; exact h)).1
theorem nodup_dedup {xs : List Str} (h : xs.Nodup) : (dedup xs).length = xs.length := by
  have := nodup_fold xs [] h fun x _ z => by cases z
  rw [List.length_nil, Nat.zero_add] at this
  exact this
theorem book_nodup {k m : PyData} (h : fBook (.tuple [k, m]) = true) : (namesOf k m).Nodup := by
  have e : fBook (.tuple [k, m]) = (fKinds k && fMoves m (itemsOf k).length && decide (((dedup (namesOf k m)).length : Int) = (namesOf k m).length)) := rfl
  rw [e, Bool.and_eq_true] at h
  exact dedup_nodup (Int.ofNat.inj (of_decide_eq_true h.2))
theorem book_twice {k m : PyData} (h : ¬ (namesOf k m).Nodup) : fBook (.tuple [k, m]) = false := by
  cases e : fBook (.tuple [k, m]) with
  | false => rfl
  | true => exact absurd (book_nodup e) h
theorem book_kinds {k m : PyData} (h : fKinds k = false) : fBook (.tuple [k, m]) = false := by
  show (fKinds k && fMoves m (itemsOf k).length && _) = false
  rw [h]
  rfl
theorem book_moves {k m : PyData} (h : fMoves m (itemsOf k).length = false) : fBook (.tuple [k, m]) = false := by
  show (fKinds k && fMoves m (itemsOf k).length && _) = false
  rw [h, Bool.and_false]
  rfl
theorem moves_one {ms : List PyData} {m : PyData} {w : Int} (hm : m ∈ ms) (h : fMove m w = false) : fMoves (.tuple ms) w = false := by
  show (!decide ((8 : Int) < ms.length) && ms.all (fun m => fMove m w)) = false
  have : ms.all (fun m => fMove m w) = false := by
    rw [List.all_eq_false]
    exact ⟨m, hm, by rw [h]; simp⟩
  rw [this, Bool.and_false]
theorem move_nm {x : Str} {a b c : PyData} {w : Int} (h : fNameS x = false) : fMove (.tuple [.str x, a, b, c]) w = false := by
  show ((fNameS x && _) && _) = false
  rw [h]
  rfl
theorem move_take {x a b c : PyData} {w : Int} (h : fUnits a w = false) : fMove (.tuple [x, a, b, c]) w = false := by
  show ((fName x && (fUnits a w && _)) && _) = false
  rw [h, Bool.false_and, Bool.and_false]
  rfl
theorem move_low {x a b c : PyData} {w : Int} (h : fUnits b w = false) : fMove (.tuple [x, a, b, c]) w = false := by
  show ((fName x && (fUnits a w && (fUnits b w && _))) && _) = false
  rw [h, Bool.false_and, Bool.and_false, Bool.and_false]
  rfl
theorem move_le {x a b c : PyData} {w : Int} (h : leAll b c = false) : fMove (.tuple [x, a, b, c]) w = false := by
  show (_ && leAll b c) = false
  rw [h, Bool.and_false]
theorem units_len {ds : List PyData} {w : Int} (h : (ds.length : Int) ≠ w) : fUnits (.tuple ds) w = false := by
  show ((decide ((ds.length : Int) = w) && _) && _) = false
  rw [decide_eq_false h]
  rfl
theorem units_most {d : PyData} {ds : List PyData} {w : Int} (h : okMost d = false) : fUnits (.tuple (d :: ds)) w = false := by
  show (_ && (okMost d && _)) = false
  rw [h, Bool.false_and, Bool.and_false]
theorem units_entry {d : PyData} {ds : List PyData} {w : Int} (h : okEntry 0 d = false) : fUnits (.tuple (d :: ds)) w = false := by
  show ((_ && (okEntry 0 d && _)) && _) = false
  rw [h, Bool.false_and, Bool.and_false]
  rfl
theorem flat_one (d : PyData) : ∀ n : Nat, (List.replicate n [d]).flatten = List.replicate n d
  | 0 => rfl
  | n + 1 => by rw [List.replicate_succ, List.flatten_cons, flat_one d n, List.replicate_succ]; rfl

/-! ### the good book is one -/
theorem ints_all {es : List Int} (h : ∀ e ∈ es, 0 ≤ e ∧ e ≤ 1000) : (es.map PyData.int).all (okEntry 0) = true ∧ (es.map PyData.int).all okMost = true := by
  constructor <;> rw [List.all_eq_true] <;> intro d hd <;> obtain ⟨e, he, rfl⟩ := List.mem_map.mp hd
  · exact decide_eq_true (h e he).1
  · exact decide_eq_true (h e he).2
theorem small_units {n : Nat} {es : List Int} (h : Small n 1000 es) : fUnits (intsD es) n = true := by
  obtain ⟨a, b⟩ := ints_all h.2
  show ((decide (((es.map PyData.int).length : Int) = n) && (es.map PyData.int).all (okEntry 0)) && (es.map PyData.int).all okMost) = true
  rw [a, b, List.length_map, h.1, decide_eq_true rfl]
  rfl
theorem GoodMv.move {n j : Nat} {m : Mv} (hj : 6 + j < 14) (h : GoodMv n j m) : fMove (moveD m) n = true := by
  show ((fNameS m.name && (fUnits (intsD m.take) n && (fUnits (intsD m.low) n && (fUnits (intsD m.high) n && true)))) && leAll (intsD m.low) (intsD m.high)) = true
  rw [h.name.name hj, small_units h.take, small_units h.low, small_units h.high, show leAll (intsD m.low) (intsD m.high) = true from (leAll_ints m.low m.high).trans h.le]
  rfl
theorem GoodBk.kindsOk {kn : List Str} {mv : List Mv} (h : GoodBk kn mv) : fKinds (.tuple (kn.map PyData.str)) = true := by
  show ((decide ((1 : Int) ≤ (kn.map PyData.str).length) && decide (((kn.map PyData.str).length : Int) ≤ 6)) && (kn.map PyData.str).all fName) = true
  have h1 := h.one
  have h6 := h.six
  rw [List.length_map, decide_eq_true (by omega), decide_eq_true (by omega)]
  rw [Bool.true_and, Bool.true_and, List.all_eq_true]
  intro d hd
  obtain ⟨x, hx, rfl⟩ := List.mem_map.mp hd
  obtain ⟨i, hi, e⟩ := List.getElem_of_mem hx
  exact (h.kinds i x (by rw [List.getElem?_eq_getElem hi, e])).name (by omega)
theorem GoodBk.movesOk {kn : List Str} {mv : List Mv} (h : GoodBk kn mv) : fMoves (.tuple (mv.map moveD)) kn.length = true := by
  show (!decide ((8 : Int) < (mv.map moveD).length) && (mv.map moveD).all (fun m => fMove m kn.length)) = true
  have h8 := h.eight
  rw [List.length_map, decide_eq_false (by omega), Bool.not_false, Bool.true_and, List.all_eq_true]
  intro d hd
  obtain ⟨m, hm, rfl⟩ := List.mem_map.mp hd
  obtain ⟨j, hj, e⟩ := List.getElem_of_mem hm
  exact (h.moves j m (by rw [List.getElem?_eq_getElem hj, e])).move (by omega)
theorem names_bk (kn : List Str) (mv : List Mv) : namesOf (.tuple (kn.map PyData.str)) (.tuple (mv.map moveD)) = kn ++ mv.map (·.name) := by
  show (kn.map PyData.str).map strOf ++ (mv.map moveD).map nameOf = _
  rw [List.map_map, List.map_map]
  congr 1
  exact List.map_id kn
theorem GoodBk.nodup {kn : List Str} {mv : List Mv} (h : GoodBk kn mv) : (kn ++ mv.map (·.name)).Nodup := by
  have h6 := h.six
  rw [List.nodup_append]
  refine ⟨?_, ?_, ?_⟩
  · rw [List.nodup_iff_pairwise_ne] <;> skip
    rw [List.pairwise_iff_getElem]
    intro i j hi hj hij e
    have a := h.kinds i _ (List.getElem?_eq_getElem hi)
    rw [e] at a
    have := a.inj (h.kinds j _ (List.getElem?_eq_getElem hj))
    omega
  · rw [List.nodup_iff_pairwise_ne] <;> skip
    rw [List.pairwise_iff_getElem]
    intro i j hi hj hij e
    rw [List.length_map] at hi hj
    have a := (h.moves i _ (List.getElem?_eq_getElem hi)).name
    have b := (h.moves j _ (List.getElem?_eq_getElem hj)).name
    rw [List.getElem_map, List.getElem_map] at e
    rw [e] at a
    have := a.inj b
    omega
  · intro x hx y hy e
    subst e
    obtain ⟨i, hi, ei⟩ := List.getElem_of_mem hx
    obtain ⟨m, hm, em⟩ := List.mem_map.mp hy
    obtain ⟨j, hj, ej⟩ := List.getElem_of_mem hm
    have a := h.kinds i x (by rw [List.getElem?_eq_getElem hi, ei])
    have b := (h.moves j m (by rw [List.getElem?_eq_getElem hj, ej])).name
    rw [em] at b
    have := a.inj b
    omega
theorem GoodBk.isBook {kn : List Str} {mv : List Mv} (h : GoodBk kn mv) : fBook (bkD kn mv) = true := by
  show (fKinds (.tuple (kn.map PyData.str)) && fMoves (.tuple (mv.map moveD)) ((kn.map PyData.str).length : Nat) && decide (((dedup (namesOf (.tuple (kn.map PyData.str)) (.tuple (mv.map moveD)))).length : Int) = (namesOf (.tuple (kn.map PyData.str)) (.tuple (mv.map moveD))).length)) = true
  rw [names_bk, nodup_dedup h.nodup, List.length_map, h.kindsOk, h.movesOk, decide_eq_true rfl]
  rfl
end Mint


namespace Mint
open PySem PySem.Spec PyProof.Rows L2 GxR Gx RZ

/-! ### the spoilt books -/
theorem small_pair {a b : PyData} (h1 : SmallStrs a) (h2 : SmallMoves b) : SmallBook (.tuple [a, b]) := by
  intro k m e
  cases e
  exact ⟨h1, h2⟩
theorem GoodBk.smallK {kn : List Str} {mv : List Mv} (h : GoodBk kn mv) : SmallStrs (.tuple (kn.map PyData.str)) := fun d hd => by
  obtain ⟨x, hx, rfl⟩ := List.mem_map.mp hd
  obtain ⟨i, hi, e⟩ := List.getElem_of_mem hx
  exact (h.kinds i x (by rw [List.getElem?_eq_getElem hi, e])).small
theorem GoodBk.smallM {kn : List Str} {mv : List Mv} (h : GoodBk kn mv) : SmallMoves (.tuple (mv.map moveD)) := fun d hd => by
  obtain ⟨m, hm, rfl⟩ := List.mem_map.mp hd
  obtain ⟨j, hj, e⟩ := List.getElem_of_mem hm
  exact (h.moves j m (by rw [List.getElem?_eq_getElem hj, e])).name.small
theorem GoodBk.small {kn : List Str} {mv : List Mv} (h : GoodBk kn mv) : SmallBook (bkD kn mv) := small_pair h.smallK h.smallM
end Mint


namespace Fw
open PySem PySem.Spec PyProof.Rows L2 GxR Gx Gy RZ Mint
open PySem.Builtin.Str (subAt strSub occurrences partsBetween strKind)
/-! ### what is read of words -/
theorem txt_join (a : Str) (xs : List Str) : Txt.join a xs = Str.join a xs := by
  unfold Txt.join
  rw [StrLaws.glued_eq_join]
theorem readN_num {n m : Nat} (h : n ≤ m) : fReadN (numS n) m = .int n := by
  unfold fReadN
  have h1 : ¬ ((numS n).length = 0 ∨ (numS m).length < (numS n).length) := by
    have := numS_len_le h
    have h2 : (numS n).length ≠ 0 := fun z => numS_ne n (by
      rw [← sgn_len] at z
      exact List.length_eq_zero_iff.mp z)
    omega
  rw [if_neg h1]
  have h2 : ¬ (sgn (numS n)).any (fun c => !digS c) = true := by
    rw [List.any_eq_true]
    rintro ⟨c, hc, h⟩
    have := numS_in hc
    unfold digS at h
    simp only [Bool.not_eq_true', decide_eq_false_iff_not] at h
    exact h this
  rw [if_neg h2]
  have h3 : ¬ ((sgn (numS n))[0]? = some 48 ∧ numS n ≠ Str.ofString "0") := by
    rintro ⟨h3, h4⟩
    by_cases z : n = 0
    · subst z
      exact h4 numS_zero
    · obtain ⟨c, r, e, hc⟩ := numS_head (n := n) (by omega)
      rw [e] at h3
      cases h3
      exact hc rfl
  rw [if_neg h3]
  have e : NumText.digitsVal (sgn (numS n)) = n := by
    rw [numS_sgn, PySem.W.KIN.val_back]
  rw [e, if_pos h]
theorem numS_endless (n : Nat) : numS n ≠ Str.ofString "endless" := fun z => by
  have : (101 : Nat) ∈ sgn (numS n) := by rw [z]; decide +kernel
  have := numS_in this
  omega
theorem dots_none (n : Nat) : Txt.partition (numS n) (Str.ofString "..") = (numS n, Str.empty, Str.empty) :=
  partition_none (o := 0) (c := 46) (by decide +kernel) fun z => by have := numS_in z; omega
theorem empty_is : Str.empty = Str.ofString "" := by decide +kernel
theorem range_num {n m : Nat} (h : n ≤ m) (h0 : n ≠ 0) : fRange (numS n) m = some ((n : Int), (n : Int)) := by
  unfold fRange
  rw [if_neg (numS_endless n), dots_none, if_pos empty_is]
  show oneOf (fReadN (numS n) m) = _
  rw [readN_num h]
  show (if (n : Int) = 0 then none else some ((n : Int), (n : Int))) = _
  rw [if_neg (by omega)]
theorem range_end (m : Nat) : fRange (Str.ofString "endless") m = some (-1, -1) := by
  unfold fRange
  rw [if_pos rfl]
theorem range_entry {e : Int} {m : Nat} (h : e = -1 ∨ (0 ≤ e ∧ e ≤ m)) (h0 : e ≠ 0) : fRange (entryS e) m = some (e, e) := by
  unfold entryS
  by_cases h1 : e = -1
  · rw [if_pos h1, range_end, h1]
  · rw [if_neg h1, range_num (n := e.toNat) (by omega) (by omega), Int.toNat_of_nonneg (by omega)]
theorem dots_two (a b : Nat) : Txt.partition (numS a ++ Str.ofString ".." ++ numS b) (Str.ofString "..") = (numS a, Str.ofString "..", numS b) := by
  obtain ⟨A, eA⟩ : ∃ A, A = numS a := ⟨_, rfl⟩
  obtain ⟨B, eB⟩ : ∃ B, B = numS b := ⟨_, rfl⟩
  have hA : (46 : Nat) ∉ sgn A := fun z => by rw [eA] at z; have := numS_in z; omega
  have hB : (46 : Nat) ∉ sgn B := fun z => by rw [eB] at z; have := numS_in z; omega
  rw [← eA, ← eB]
  obtain ⟨y, ey⟩ : ∃ y, y = Str.ofString ".." := ⟨_, rfl⟩
  have ly : y.length = 2 := by rw [ey]; decide +kernel
  have sy : sgn y = [46, 46] := by rw [ey]; decide +kernel
  rw [← ey]
  have dot : ∀ i, (sgn (A ++ y ++ B))[i]? = some 46 → i = A.length ∨ i = A.length + 1 := fun i hi => by
    rw [sgn_app, sgn_app, sy, List.append_assoc, List.getElem?_append] at hi
    split at hi
    · exact absurd (List.mem_of_getElem? hi) hA
    · rename_i h1
      rw [List.getElem?_append] at hi
      rw [sgn_len] at hi h1
      split at hi
      · rename_i h2
        have h3 : i - A.length < 2 := h2
        omega
      · exact absurd (List.mem_of_getElem? hi) hB
  have hocc : occurrences (A ++ y ++ B) y 0 (A ++ y ++ B).length 1 = [A.length] := by
    refine occ_is (by omega) (by simp) ⟨Nat.zero_le _, ?_, subAt_mid A y B, trivial⟩ fun i _ hs => ?_
    · rw [Str.length_append, Str.length_append]; omega
    · have h0 := subAt_get (j := 0) hs (by omega)
      have h1 := subAt_get (j := 1) hs (by omega)
      rw [sy] at h0 h1
      have := dot _ h0
      have := dot _ h1
      exact List.mem_singleton.mpr (by omega)
  unfold Txt.partition
  rw [hocc]
  have e1 : strSub (A ++ y ++ B) 0 A.length = A := by
    have := sub_left A (y ++ B)
    rw [show A ++ (y ++ B) = A ++ y ++ B from sgn_ext (by rw [sgn_app, sgn_app, sgn_app, sgn_app, List.append_assoc])] at this
    exact this
  have e2 : strSub (A ++ y ++ B) (A.length + y.length) (A ++ y ++ B).length = B := by
    have := sub_right (A ++ y) B
    rw [Str.length_append] at this
    exact this
  show (strSub (A ++ y ++ B) 0 A.length, y, strSub (A ++ y ++ B) (A.length + y.length) (A ++ y ++ B).length) = _
  rw [e1, e2]
theorem lenOf (s : Str) : (sgn s).length = s.length := sgn_len s
theorem range_two {a b m : Nat} (h : a < b) (h1 : b ≤ m) : fRange (numS a ++ Str.ofString ".." ++ numS b) m = some ((a : Int), (b : Int)) := by
  have hne : numS a ++ Str.ofString ".." ++ numS b ≠ Str.ofString "endless" := fun z => by
    have : (101 : Nat) ∈ sgn (numS a ++ Str.ofString ".." ++ numS b) := by rw [z]; decide +kernel
    rw [sgn_app, sgn_app] at this
    rcases List.mem_append.mp this with h | h
    · rcases List.mem_append.mp h with h | h
      · have := numS_in h
        omega
      · exact absurd h (by decide +kernel)
    · have := numS_in h
      omega
  have hp := dots_two a b
  unfold fRange
  rw [if_neg hne, hp, if_neg (show ¬ Str.ofString ".." = Str.ofString "" by decide +kernel)]
  show pairOf (fReadN (numS a) m) (fReadN (numS b) m) = _
  rw [readN_num (by omega), readN_num h1]
  show (if (a : Int) ≥ (b : Int) then none else some ((a : Int), (b : Int))) = _
  rw [if_neg (by omega)]
end Fw


namespace Fw
open PySem PySem.Spec PyProof.Rows L2 GxR Gx Gy RZ Mint
open PySem.Builtin.Str (subAt strSub occurrences partsBetween strKind)
/-! ### read_items -/
theorem in_join {a : Str} {c : Nat} : ∀ {xs : List Str} {x : Str}, x ∈ xs → c ∈ sgn x → c ∈ sgn (Str.join a xs)
  | [], _, h, _ => nomatch h
  | [y], x, h, hc => by
    rw [List.mem_singleton.mp h] at hc
    exact hc
  | y :: z :: r, x, h, hc => by
    rw [join_two, sgn_app, sgn_app]
    rcases List.mem_cons.mp h with rfl | h
    · exact List.mem_append_left _ (List.mem_append_left _ hc)
    · exact List.mem_append_right _ (in_join h hc)
theorem part_is {a y b : Str} {o c : Nat} (ho : (sgn y)[o]? = some c) (once : ∀ j, (sgn y)[j]? = some c → j = o) (na : c ∉ sgn a) (nb : c ∉ sgn b) : Txt.partition (a ++ y ++ b) y = (a, y, b) := by
  refine partition_is ho fun i hi => ?_
  rw [sgn_app, sgn_app, List.append_assoc, List.getElem?_append] at hi
  split at hi
  · exact absurd (List.mem_of_getElem? hi) na
  · rename_i h1
    rw [List.getElem?_append] at hi
    rw [sgn_len] at hi h1
    split at hi
    · have := once _ hi
      omega
    · exact absurd (List.mem_of_getElem? hi) nb
theorem once_of {l : List Nat} {o c : Nat} (h : l[o]? = some c) (h2 : l.count c = 1) : ∀ j, l[j]? = some c → j = o := fun j hj => by
  have a1 := (List.getElem?_eq_some_iff.mp h).1
  have a2 := (List.getElem?_eq_some_iff.mp hj).1
  rcases Nat.lt_trichotomy j o with h3 | h3 | h3
  · exfalso
    have e : l = l.take o ++ l.drop o := (List.take_append_drop o l).symm
    have c1 : c ∈ l.take o := by
      refine List.mem_of_getElem? (i := j) ?_
      rw [List.getElem?_take, if_pos h3, hj]
    have c2 : c ∈ l.drop o := List.mem_of_getElem? (i := 0) (by rw [List.getElem?_drop]; exact h)
    rw [e, List.count_append] at h2
    have := List.count_pos_iff.mpr c1
    have := List.count_pos_iff.mpr c2
    omega
  · exact h3
  · exfalso
    have e : l = l.take j ++ l.drop j := (List.take_append_drop j l).symm
    have c1 : c ∈ l.take j := by
      refine List.mem_of_getElem? (i := o) ?_
      rw [List.getElem?_take, if_pos h3, h]
    have c2 : c ∈ l.drop j := List.mem_of_getElem? (i := 0) (by rw [List.getElem?_drop]; exact hj)
    rw [e, List.count_append] at h2
    have := List.count_pos_iff.mpr c1
    have := List.count_pos_iff.mpr c2
    omega
abbrev plusS : Str := Str.ofString " + "
theorem itS_no {its : Its} (h : ItsOk its) {c : Nat} (hc : c = 43 ∨ c = 58 ∨ c = 62 ∨ c = 10) : ∀ p ∈ its, c ∉ sgn (itS p) := fun p hp z => by
  unfold itS at z
  rw [sgn_app, sgn_app, sp1_sgn] at z
  have w := h.w p hp
  rcases List.mem_append.mp z with z | z
  · rcases List.mem_append.mp z with z | z
    · rcases hc with rfl | rfl | rfl | rfl
      · exact w.pl z
      · exact w.co z
      · exact w.gt z
      · exact w.nl z
    · have := List.mem_singleton.mp z
      omega
  · exact (h.k p hp).no (by omega) z
theorem text_split {its : Its} (h : ItsOk its) (hne : its ≠ []) : Txt.split (textOf its) plusS = its.map itS := by
  rw [← text_join hne, txt_join]
  have e : (sgn plusS)[1]? = some 43 := by decide +kernel
  refine split_is (o := 1) (c := 43) (by simpa using hne) (by decide +kernel) e (once_of e (by decide +kernel)) fun x hx => ?_
  obtain ⟨p, hp, rfl⟩ := List.mem_map.mp hx
  exact itS_no h (.inl rfl) p hp
theorem item_part {its : Its} (h : ItsOk its) {p : Str × Str} (hp : p ∈ its) : Txt.partition (itS p) sp1 = (p.1, sp1, p.2) := by
  have e : (sgn sp1)[0]? = some 32 := by decide +kernel
  exact part_is e (once_of e (by decide +kernel)) (h.w p hp).sp ((h.k p hp).no (by omega))
theorem text_ne {its : Its} (hne : its ≠ []) : textOf its ≠ Str.ofString "nothing" := fun z => by
  have : (32 : Nat) ∈ sgn (textOf its) := by
    rw [← text_join hne, txt_join]
    cases its with
    | nil => exact absurd rfl hne
    | cons p r =>
      refine in_join (x := itS p) List.mem_cons_self ?_
      unfold itS
      rw [sgn_app, sgn_app, sp1_sgn]
      simp
  rw [z] at this
  exact absurd this (by decide +kernel)
def itK (p : Str × Str) : Key × PyData := (.inr p.2, .str p.1)
structure ItsIn (kn : List Str) (its : Its) : Prop where
  ok : ItsOk its
  nd : (its.map (·.2)).Nodup
  mem : ∀ p ∈ its, p.2 ∈ kn
def g_read_items {K : PySem.W.Frag} : GF K := fun cs Q => ∃ (kn : List Str) (its : Its), cs = [.d (.tuple (kn.map PyData.str)), .d (.str (textOf its))] ∧ ItsIn kn its ∧ Q (.k (its.map itK)) cs
theorem valD_none {its : Its} {k : Str} (h : ∀ p ∈ its, p.2 ≠ k) : valD (its.map itK) (.inr k) = none := by
  unfold valD
  rw [Option.map_eq_none_iff, List.find?_eq_none]
  intro kv hkv
  obtain ⟨p, hp, rfl⟩ := List.mem_map.mp hkv
  exact fun z => h p hp (Sum.inr.inj (of_decide_eq_true z))
theorem putD_new {its : Its} {k : Str} {v : PyData} (h : ∀ p ∈ its, p.2 ≠ k) : putD (its.map itK) (.inr k) v = its.map itK ++ [(.inr k, v)] := by
  unfold putD
  rw [if_neg]
  rw [List.any_eq_true]
  rintro ⟨kv, hkv, e⟩
  obtain ⟨p, hp, rfl⟩ := List.mem_map.mp hkv
  exact h p hp (Sum.inr.inj (of_decide_eq_true e))
section
variable {P : Program} {w : World} {K : PySem.W.Frag} {mg : Str → Option Value} {base : Heap} {f T : Addr} {fd : FuncData} {Ps : List Addr}
abbrev sread_items : Stmt := top 24
theorem scread_items : FnScope ["kinds", "text", "words", "item", "word", "_", "kind"] ["kinds", "text"] (defScope sread_items) := ⟨rfl, rfl, rfl, by decide +kernel, rfl, by decide +kernel, by decide +kernel⟩
theorem ok_read_items (F : Fun K "read_items" "read_items" sread_items f fd) (G : Glb mg)   : FnOk P w K mg base CX0 (1) f fd ["kinds", "text"] (spA K Ps g_read_items) := by
  refine ok_fn F scread_items (fun cs Q' h => ?_) (by decide) fun cdv A outer s H E hr => ?_
  · obtain ⟨kn, its, rfl, hI, h⟩ := h
    rfl
  have nd := scread_items.nd
  refine ⟨_, ?fs, (pss_cons (ps_set (i := 2) nd rfl (Or.inl rfl) pe_dnewK)
    (pss_cons (ps_if (pt_cmpR op_eq (pv 1) pe_str (nomark _)) (pss_one (ps_ret (pv 2))) pss_nil)
    (pss_cons (ps_for PassesOwn.never rfl (pi_list (fe_split (pv 1) pe_str)) (pg_name (i := 3) nd rfl (Or.inl rfl)) (pss_cons (ps_asg (fe_partition (pv 3) pe_str) (pg_tup (n := 3) (by rfl) (pgs_cons (pg_name (i := 4) nd rfl (Or.inl rfl)) (pgs_cons (pg_name (i := 5) nd rfl (Or.inl rfl)) (pgs_cons (pg_name (i := 6) nd rfl (Or.inl rfl)) pgs_nil)))))
    (pss_cons (ps_if (PW.pt (pw_or (pt_cmpR op_notIn_seq (pv 6) (pv 0) rfl) (pw_or1 (pt_cmp (pc_din (hu_of hr) (pv 6) (pv 2)))))) (pss_one (ps_ret pe_non)) pss_nil)
    (pss_one (ps_dput (hu_of hr) (pv 2) (pv 6) (pv 4) rfl)))))
    (pss_one (ps_ret (pv 2)))))), ?inst, fun cs Q' hg => ?body⟩
  case inst =>
    dsimp only [cxOf, Cx.nox, Cx.wish, List.map]
    infer_instance
  case body =>
    obtain ⟨kn, its, rfl, hI, h⟩ := hg
    have z1 : 10000000 ≤ sizeLine := by decide
    have hl := text_len hI.ok hI.ok.n
    cases its with
    | nil =>
      have e : textOf [] = Str.ofString "nothing" := rfl
      simp [and_assoc, e]
      exact h
    | cons p0 r0 =>
      obtain ⟨its, ei⟩ : ∃ its, its = p0 :: r0 := ⟨_, rfl⟩
      have hne : its ≠ [] := by rw [ei]; simp
      rw [← ei] at hI h hl ⊢
      have e1 := text_ne hne
      have e2 := text_split hI.ok hne
      have hn := hI.ok.n
      have a3 : ¬ plusS.length = 0 := by decide +kernel
      simp [and_assoc, e1, e2]
      refine ⟨a3, by omega, ?_⟩
      refine forF_idx (PyData.str ∘ itS) (fun (i : Nat) s => ∃ (c3 c4 c5 c6 : SC K), s = [.f (.d (.tuple (kn.map PyData.str))), .f (.d (.str (textOf its))), .f (.k ((its.take i).map itK)), c3, c4, c5, c6] ∧ blS c3 = true ∧ blS c4 = true ∧ blS c5 = true ∧ blS c6 = true) its (fun _ _ _ => trivial) ⟨.e, .e, .e, .e, by simp, rfl, rfl, rfl, rfl⟩ (fun i s p hp ⟨c3, c4, c5, c6, es, b3, b4, b5, b6⟩ N hN => ?_) (fun s ⟨c3, c4, c5, c6, es, b3, b4, b5, b6⟩ => ?_)
      · subst es
        have hpm := List.mem_of_getElem? hp
        have hi := (List.getElem?_eq_some_iff.mp hp).1
        have e3 := item_part hI.ok hpm
        have hk := hI.mem p hpm
        have l1 := hI.ok.len p hpm
        have fresh : ∀ q ∈ its.take i, q.2 ≠ p.2 := fun q hq z => by
          obtain ⟨j, hj⟩ := List.mem_iff_getElem?.mp hq
          rw [List.getElem?_take] at hj
          split at hj
          · rename_i hji
            have g1 : (its.map (·.2))[j]? = some p.2 := by rw [List.getElem?_map, hj]; exact congrArg some z
            have g2 : (its.map (·.2))[i]? = some p.2 := by rw [List.getElem?_map, hp]; rfl
            have hj' : j < its.length := by omega
            have g3 := (List.getElem?_inj (by rw [List.length_map]; omega) hI.nd).mp (g1.trans g2.symm)
            omega
          · cases hj
        have v1 := valD_none fresh
        have v2 := putD_new (v := .str p.1) fresh
        rw [List.map_take] at v1 v2
        have a4 : ¬ sp1.length = 0 := by decide +kernel
        simp [and_assoc, can_bl b3, can_bl b4, can_bl b5, can_bl b6, e3, hk, v1]
        refine ⟨a4, by omega, by omega, ?_⟩
        rw [v2]
        refine hN _ ⟨.f (.d (.str (itS p))), .f (.d (.str p.1)), .f (.d (.str sp1)), .f (.d (.str p.2)), ?_, rfl, rfl, rfl, rfl⟩
        rw [List.take_succ, hp]
        simp [itK]
      · subst es
        rw [List.take_length]
        simp [and_assoc]
        exact h
end
end Fw


namespace Fw
open PySem PySem.Spec PyProof.Rows L2 GxR Gx Gy RZ Mint
/-! ### read_ranges, read_entries -/
theorem mem_its {kn W : List Str} {p : Str × Str} : p ∈ itsOf kn W ↔ ∃ i : Nat, kn[i]? = some p.2 ∧ W[i]? = some p.1 ∧ p.1 ≠ Str.ofString "" := by
  unfold itsOf
  rw [List.mem_filterMap]
  constructor
  · rintro ⟨q, h1, h2⟩
    split at h2
    · cases h2
    · rename_i hne
      cases h2
      obtain ⟨i, hi⟩ := List.mem_iff_getElem?.mp h1
      rw [List.getElem?_zip_eq_some] at hi
      exact ⟨i, hi.1, hi.2, hne⟩
  · rintro ⟨i, h1, h2, h3⟩
    exact ⟨(p.2, p.1), List.mem_iff_getElem?.mpr ⟨i, by rw [List.getElem?_zip_eq_some]; exact ⟨h1, h2⟩⟩, by simp only [if_neg h3]⟩
theorem its_kinds (kn W : List Str) : ((itsOf kn W).map (·.2)).Sublist kn := by
  unfold itsOf
  induction kn generalizing W with
  | nil => exact .slnil
  | cons k ks ih =>
    cases W with
    | nil => simp
    | cons w W =>
      rw [List.zip_cons_cons, List.filterMap_cons]
      by_cases h : w = Str.ofString ""
      · simp only [if_pos h]
        exact (ih W).cons _
      · simp only [if_neg h]
        exact (ih W).cons₂ _
theorem its_in {kn W : List Str} {its : Its} (hp : its.Perm (itsOf kn W)) (h : ItsOk its) (hn : kn.Nodup) : ItsIn kn its :=
  ⟨h, (hp.map _).nodup_iff.mpr ((its_kinds kn W).nodup hn), fun p hpm => (its_words (hp.mem_iff.mp hpm)).2.1⟩
theorem valD_its {kn W : List Str} {its : Its} (hp : its.Perm (itsOf kn W)) (hn : kn.Nodup) {i : Nat} {k w : Str} (hk : kn[i]? = some k) (hw : W[i]? = some w) : valD (its.map itK) (.inr k) = if w = Str.ofString "" then none else some (.str w) := by
  have uniq : ∀ p ∈ its, p.2 = k → p.1 = w ∧ w ≠ Str.ofString "" := fun p hpm e => by
    obtain ⟨j, h1, h2, h3⟩ := mem_its.mp (hp.mem_iff.mp hpm)
    rw [e] at h1
    have hj := (List.getElem?_eq_some_iff.mp hk).1
    have : i = j := (List.getElem?_inj hj hn).mp (hk.trans h1.symm)
    subst this
    rw [hw] at h2
    cases h2
    exact ⟨rfl, h3⟩
  by_cases hw0 : w = Str.ofString ""
  · rw [if_pos hw0]
    exact valD_none fun p hpm e => (uniq p hpm e).2 hw0
  · rw [if_neg hw0]
    have hm : (w, k) ∈ its := hp.mem_iff.mpr (mem_its.mpr ⟨i, hk, hw, hw0⟩)
    unfold valD
    cases hf : (its.map itK).find? fun kv => decide (kv.1 = .inr k) with
    | none =>
      rw [List.find?_eq_none] at hf
      exact absurd (decide_eq_true rfl) (hf (itK (w, k)) (List.mem_map.mpr ⟨_, hm, rfl⟩))
    | some kv =>
      have h1 := List.mem_of_find?_eq_some hf
      have h2 := List.find?_some hf
      obtain ⟨p, hpm, rfl⟩ := List.mem_map.mp h1
      have h3 := (uniq p hpm (Sum.inr.inj (of_decide_eq_true h2))).1
      rw [← h3]
      rfl
def pairD (p : Int × Int) : PyData := .tuple [.int p.1, .int p.2]
structure Rd (kn W : List Str) (its : Its) (prs : List (Int × Int)) (m : Nat) : Prop where
  perm : its.Perm (itsOf kn W)
  ok : ItsOk its
  nd : kn.Nodup
  n : kn.length ≤ 999
  w : W.length = kn.length
  p : prs.length = kn.length
  mo : m ≤ 10 ^ 30
  rd : ∀ (i : Nat) w p, W[i]? = some w → prs[i]? = some p → (w = Str.ofString "" ∧ p = ((0 : Int), (0 : Int))) ∨ (w ≠ Str.ofString "" ∧ w.length ≤ 70 ∧ fRange w m = some p)
def g_read_ranges {K : PySem.W.Frag} : GF K := fun cs Q => ∃ kn W its prs m, cs = [.d (.tuple (kn.map PyData.str)), .d (.str (textOf its)), .d (.int (m : Nat))] ∧ Rd kn W its prs m ∧ Q (.l (prs.map pairD)) cs
def g_read_entries {K : PySem.W.Frag} : GF K := fun cs Q => ∃ kn W its es m, cs = [.d (.tuple (kn.map PyData.str)), .d (.str (textOf its)), .d (.int (m : Nat))] ∧ Rd kn W its (es.map fun e => (e, e)) m ∧ Q (.d (iD es)) cs
theorem x_rrange {K : PySem.W.Frag} {x : Str} {m : Nat} {Q : Cn K → List (Cn K) → Prop} (h : m ≤ 10 ^ 30 ∧ x.length ≤ sizeLine ∧ Q (.d (rgD (fRange x m))) [.d (.str x), .d (.int m)]) : g_read_range [.d (.str x), .d (.int m)] Q := ⟨x, m, rfl, h⟩
theorem no_none (prs : List (Int × Int)) : ((prs.map pairD).any fun z => PyData.eqv z .none) = false := by
  rw [List.any_eq_false]
  intro z hz
  obtain ⟨p, _, rfl⟩ := List.mem_map.mp hz
  simp [pairD, PyData.eqv]
theorem shaped_prs (prs : List (Int × Int)) : SeqAt.shaped (.list (prs.map pairD)) = true ∧ SeqAt.shaped (.tuple (prs.map pairD)) = true := by
  have h : ∀ x ∈ prs.map pairD, x.canLay0 = true ∧ x.depth ≤ 60 := fun x hx => by
    obtain ⟨p, _, rfl⟩ := List.mem_map.mp hx
    simp [pairD, PyData.canLay0, PyData.canLayAll0, PyData.depth, PyData.depthAll]
  exact ⟨shaped_lst h, shaped_tup h⟩
section
variable {P : Program} {w : World} {K : PySem.W.Frag} {mg : Str → Option Value} {base : Heap} {f T : Addr} {fd : FuncData} {Ps : List Addr}
abbrev sread_ranges : Stmt := top 23
theorem scread_ranges : FnScope ["kinds", "text", "most", "words", "ranges", "kind"] ["kinds", "text", "most"] (defScope sread_ranges) := ⟨rfl, rfl, rfl, by decide +kernel, rfl, by decide +kernel, by decide +kernel⟩
theorem ok_read_ranges (F : Fun K "read_ranges" "read_ranges" sread_ranges f fd) (G : Glb mg)  (D_read_items : Def P w K mg base "read_items" (1) ["kinds", "text"] (spA K Ps g_read_items)) (D_read_range : Def P w K mg base "read_range" (3) ["word", "most"] (spA K Ps g_read_range)) : FnOk P w K mg base CX0 (4) f fd ["kinds", "text", "most"] (spA K Ps g_read_ranges) := by
  refine ok_fn F scread_ranges (fun cs Q' h => ?_) (by decide) fun cdv A outer s H E hr => ?_
  · obtain ⟨kn, W, its, prs, m, rfl, hR, h⟩ := h
    rfl
  have nd := scread_ranges.nd
  refine ⟨_, ?fs, (pss_cons (ps_set (i := 3) nd rfl (Or.inr rfl) (pe_c D_read_items (hr.mono (by decide)) (pa_cons (pv 0) (pa_cons (pv 1) pa_nil))))
    (pss_cons (ps_if (pt_cmp (pc_isN (pv 3))) (pss_one (ps_ret pe_non)) pss_nil)
    (pss_cons (ps_setLc (i := 4) (own := [("kind", 5)]) (g := (gName 5)) (te := (tIf (tTest (tDIn (tVar 5) (tVar 3))) (tCall (spA K Ps g_read_range) [] E0 (tCons (tDGet (tVar 3) (tVar 5)) (tCons (tVar 2) tNil))) (tTup (tCons (tC (.int 0)) (tCons (tC (.int 0)) tNil))))) (tt := tYes) rfl nd rfl rfl (sw_true rfl rfl rfl (by decide +kernel)) (pi_tup (pv 0)) (blkOk_by (own := [("kind", 5)]) (N := ["kinds", "text", "most", "words", "ranges", "kind"]) (sc := defScope sread_ranges) (by decide +kernel)) (fun _ _ _ _ _ => (pg_name (i := 5) nd rfl (Or.inl rfl))) (fun _ _ _ _ _ => pts_nil) (fun _ _ _ _ _ => (pe_ifExp (pt_cmp (pc_din (hu_of hr) (pv 5) (pv 3))) (pe_c D_read_range (hr.mono (by decide)) (pa_cons (pe_dget (hu_of hr) (pv 3) (pv 5) (fun _ _ => rfl)) (pa_cons (pv 2) pa_nil))) (pe_tup (pa_cons pe_int (pa_cons pe_int pa_nil))))))
    (pss_one (ps_ret (pe_ifExp (pt_cmpR (fo_inX (units65F hr)) pe_non (pv 4) rfl) pe_non (pv 4))))))), ?inst, fun cs Q' hg => ?body⟩
  case inst =>
    dsimp only [cxOf, Cx.nox, Cx.wish, List.map]
    infer_instance
  case body =>
    obtain ⟨kn, W, its, prs, m, rfl, hR, h⟩ := hg
    have hI := its_in hR.perm hR.ok hR.nd
    have hn := hR.n
    have hw := hR.w
    have hpl := hR.p
    simp [and_assoc]
    refine ⟨kn, its, rfl, hI, ?_⟩
    simp [and_assoc]
    refine compF_inv1 PyData.str (fun i acc s => acc = (prs.take i).map pairD ∧ s = _) kn (by omega) (fun _ _ _ _ => trivial) (fun i acc s h => by rw [h.1, List.length_map, List.length_take]; omega) ⟨by simp, rfl⟩ (fun i acc s k hk ⟨e1, e2⟩ T hT => ?_) (fun acc s ⟨e1, e2⟩ => ?_)
    · subst e2
      have hi := (List.getElem?_eq_some_iff.mp hk).1
      have ew : W[i]? = some (W[i]'(by omega)) := List.getElem?_eq_getElem (by omega)
      have ep : prs[i]? = some (prs[i]'(by omega)) := List.getElem?_eq_getElem (by omega)
      obtain ⟨x, ex⟩ : ∃ x, x = W[i]'(by omega) := ⟨_, rfl⟩
      obtain ⟨p, eq⟩ : ∃ p, p = prs[i]'(by omega) := ⟨_, rfl⟩
      rw [← ex] at ew
      rw [← eq] at ep
      have hv := valD_its hR.perm hR.nd hk ew
      have step : (prs.take (i + 1)).map pairD = (prs.take i).map pairD ++ [pairD p] := by
        rw [List.take_succ, ep]; simp
      rcases hR.rd i x p ew ep with ⟨h1, h2⟩ | ⟨h1, h2, h3⟩
      · rw [if_pos h1] at hv
        simp [and_assoc, hv]
        refine hT _ _ rfl ⟨?_, rfl⟩
        rw [step, e1, h2]
        rfl
      · rw [if_neg h1] at hv
        simp [and_assoc, hv]
        have z1 : 10000000 ≤ sizeLine := by decide
        refine x_rrange ⟨hR.mo, by omega, ?_⟩
        rw [h3]
        simp [rgD]
        refine hT _ _ rfl ⟨?_, rfl⟩
        rw [step, e1]
        rfl
    · subst e2
      rw [← hpl, List.take_length] at e1
      subst e1
      have s1 := shaped_prs prs
      have s0 : SeqAt.shaped .none = true := by decide +kernel
      simp [s1, s0]
      rw [if_neg]
      · exact h
      · rintro ⟨x, hx, e⟩
        have := List.any_eq_false.mp (no_none prs) x hx
        exact this e
abbrev sread_entries : Stmt := top 22
theorem scread_entries : FnScope ["kinds", "text", "most", "ranges", "low", "high"] ["kinds", "text", "most"] (defScope sread_entries) := ⟨rfl, rfl, rfl, by decide +kernel, rfl, by decide +kernel, by decide +kernel⟩
theorem ok_read_entries (F : Fun K "read_entries" "read_entries" sread_entries f fd) (G : Glb mg) (G1 : Glb1 K mg) (D_read_ranges : Def P w K mg base "read_ranges" (4) ["kinds", "text", "most"] (spA K Ps g_read_ranges)) : FnOk P w K mg base CX0 (5) f fd ["kinds", "text", "most"] (spA K Ps g_read_entries) := by
  refine ok_fn F scread_entries (fun cs Q' h => ?_) (by decide) fun cdv A outer s H E hr => ?_
  · obtain ⟨kn, W, its, es, m, rfl, hR, h⟩ := h
    rfl
  have nd := scread_entries.nd
  refine ⟨_, ?fs, (pss_cons (ps_set (i := 3) nd rfl (Or.inl rfl) (pe_c D_read_ranges (hr.mono (by decide)) (pa_cons (pv 0) (pa_cons (pv 1) (pa_cons (pv 2) pa_nil)))))
    (pss_cons (ps_if (PW.pt (pw_or (pt_cmp (pc_isN (pv 3))) (pw_or1 (pt_val (pe_callB (cr_any rfl) rfl G1.any (by decide +kernel) (pa_cons (pe_lc (own := [("low", 4), ("high", 5)]) (g := (L2.gTup K 2 (gCons (gName 4) (gCons (gName 5) gNil)))) (te := (tOp rNe (tVar 4) (tVar 5))) (tt := tYes) rfl nd (pi_list (pv 3)) (blkOk_by (own := [("low", 4), ("high", 5)]) (N := ["kinds", "text", "most", "ranges", "low", "high"]) (sc := defScope sread_entries) (by decide +kernel)) (fun _ _ _ _ _ => (pg_tup (n := 2) (by rfl) (pgs_cons (pg_name (i := 4) nd rfl (Or.inl rfl)) (pgs_cons (pg_name (i := 5) nd rfl (Or.inl rfl)) pgs_nil)))) (fun _ _ _ _ _ => pts_nil) (fun _ _ _ _ _ => (pe_cmpR op_ne (pv 4) (pv 5) (nomark _)))) pa_nil)))))) (pss_one (ps_ret pe_non)) pss_nil)
    (pss_one (ps_ret (pe_callTy cr_tuple rfl G.tuple (by decide +kernel) (pa_cons (pe_lc (own := [("low", 4), ("high", 5)]) (g := (L2.gTup K 2 (gCons (gName 4) (gCons (gName 5) gNil)))) (te := (tVar 4)) (tt := tYes) rfl nd (pi_list (pv 3)) (blkOk_by (own := [("low", 4), ("high", 5)]) (N := ["kinds", "text", "most", "ranges", "low", "high"]) (sc := defScope sread_entries) (by decide +kernel)) (fun _ _ _ _ _ => (pg_tup (n := 2) (by rfl) (pgs_cons (pg_name (i := 4) nd rfl (Or.inl rfl)) (pgs_cons (pg_name (i := 5) nd rfl (Or.inl rfl)) pgs_nil)))) (fun _ _ _ _ _ => pts_nil) (fun _ _ _ _ _ => (pv 4))) pa_nil)))))), ?inst, fun cs Q' hg => ?body⟩
  case inst =>
    dsimp only [cxOf, Cx.nox, Cx.wish, List.map]
    infer_instance
  case body =>
    obtain ⟨kn, W, its, es, m, rfl, hR, h⟩ := hg
    have hn := hR.n
    have hpl := hR.p
    rw [List.length_map] at hpl
    simp [and_assoc]
    refine ⟨kn, W, its, _, m, rfl, hR, ?_⟩
    simp [and_assoc]
    refine compF_map (pairD ∘ fun e => (e, e)) (fun _ => PyData.bool false) es (by simp) (by omega) (fun e he T hT => ?_) ?_
    · simp [pairD]
      exact hT _ rfl rfl
    · have e1 : es.map (fun _ => PyData.bool false) = (es.map fun _ => false).map PyData.bool := by rw [List.map_map]; rfl
      rw [e1]
      obtain ⟨bs, eb⟩ : ∃ bs, bs = es.map fun _ => false := ⟨_, rfl⟩
      have hb : true ∉ bs := by rw [eb]; simp
      rw [← eb]
      simp [hb]
      refine compF_map (pairD ∘ fun e => (e, e)) PyData.int es (by simp) (by omega) (fun e he T hT => ?_) ?_
      · simp [pairD]
        exact hT _ rfl rfl
      · exact h
end
end Fw


namespace Fw
open PySem PySem.Spec PyProof.Rows L2 GxR Gx Gy RZ Mint
/-! ### read_extended, read_stock -/
theorem rd_stock {kn : List Str} {es : List Int} {its : Its} {m : Nat} (hp : its.Perm (itsOf kn (stW es))) (hn : kn.Nodup) (hl : kn.length ≤ 999) (hk : ∀ k ∈ kn, KindOk k) (he : es.length = kn.length) (hm : m ≤ 10 ^ 30) (h : ∀ e ∈ es, e = -1 ∨ (0 ≤ e ∧ e ≤ m)) : Rd kn (stW es) its (es.map fun e => (e, e)) m := by
  have hok : ∀ e ∈ es, okE e := fun e z => by
    rcases h e z with h | h
    · exact .inl h
    · exact .inr ⟨h.1, by omega⟩
  refine ⟨hp, (itsOk_of hl hk (stW_ok hok)).perm hp, hn, hl, by rw [List.length_map]; exact he, by rw [List.length_map]; exact he, hm, fun i w p hw hpp => ?_⟩
  rw [List.getElem?_map] at hw hpp
  cases e1 : es[i]? with
  | none => rw [e1] at hw; cases hw
  | some e =>
    rw [e1] at hw hpp
    cases hw
    cases hpp
    have hem := List.mem_of_getElem? e1
    by_cases h0 : e = 0
    · subst h0
      exact .inl ⟨rfl, rfl⟩
    · have e2 : lawWord e = entryS e := by unfold lawWord; rw [if_neg h0]
      have wo := entryS_ok (hok e hem) h0
      rw [e2]
      exact .inr ⟨wo.ne, wo.len, range_entry (h e hem) h0⟩
theorem rd_give {kn : List Str} {lo hi : List Int} {its : Its} (hp : its.Perm (itsOf kn (gvW lo hi))) (hn : kn.Nodup) (hl : kn.length ≤ 999) (hk : ∀ k ∈ kn, KindOk k) (h1 : Small kn.length 1000 lo) (h2 : Small kn.length 1000 hi) (hle : ∀ (i : Nat) a b, lo[i]? = some a → hi[i]? = some b → a ≤ b) : Rd kn (gvW lo hi) its (lo.zip hi) 1000 := by
  refine ⟨hp, (itsOk_of hl hk (gvW_ok h1 h2)).perm hp, hn, hl, ?_, ?_, by decide, fun i w p hw hpp => ?_⟩
  · unfold gvW
    rw [List.length_zipWith, h1.1, h2.1, Nat.min_self]
  · rw [List.length_zip, h1.1, h2.1, Nat.min_self]
  · obtain ⟨a, b, e1, e2, rfl⟩ := gvW_get hw
    rw [List.getElem?_zip_eq_some] at hpp
    rw [hpp.1] at e1
    rw [hpp.2] at e2
    obtain ⟨a', b'⟩ := p
    cases e1
    cases e2
    have ha := h1.2 _ (List.mem_of_getElem? hpp.1)
    have hb := h2.2 _ (List.mem_of_getElem? hpp.2)
    have hab := hle i _ _ hpp.1 hpp.2
    simp only at ha hb hab ⊢
    by_cases h0 : b' = 0
    · have : a' = 0 := by omega
      subst h0
      subst this
      exact .inl ⟨rfl, rfl⟩
    · have e3 : lawRange a'.toNat b'.toNat = rangeS a'.toNat b'.toNat := by unfold lawRange; rw [if_neg (by omega)]
      have wo := rangeS_ok (lo := a'.toNat) (hi := b'.toNat) (by omega) (by omega)
      rw [e3]
      refine .inr ⟨wo.ne, wo.len, ?_⟩
      unfold rangeS
      split
      · rw [range_num (by omega) (by omega), Int.toNat_of_nonneg hb.1]
        have : a' = b' := by omega
        rw [this]
      · rw [range_two (by omega) (by omega), Int.toNat_of_nonneg hb.1, Int.toNat_of_nonneg ha.1]
def g_read_extended {K : PySem.W.Frag} : GF K := fun cs Q => ∃ kn mv es its, cs = [.d (bkD kn mv), .d (.str (textOf its))] ∧ GoodBk kn mv ∧ es.length = kn.length ∧ (∀ e ∈ es, okE e) ∧ its.Perm (itsOf kn (stW es)) ∧ Q (.d (iD es)) cs
def g_read_stock {K : PySem.W.Frag} : GF K := fun cs Q => ∃ kn mv es its, cs = [.d (bkD kn mv), .d (.str (textOf its))] ∧ GoodBk kn mv ∧ es.length = kn.length ∧ (∀ e ∈ es, 0 ≤ e ∧ e ≤ 10 ^ 30) ∧ its.Perm (itsOf kn (stW es)) ∧ Q (.d (iD es)) cs
theorem bk_kn {kn : List Str} {mv : List Mv} (h : GoodBk kn mv) : kn.Nodup := (List.nodup_append.mp h.nodup).1
theorem no_end {es : List Int} (h : ∀ e ∈ es, 0 ≤ e ∧ e ≤ 10 ^ 30) : ((es.map PyData.int).any fun z => PyData.eqv z (.int (-1))) = false := by
  rw [List.any_eq_false]
  intro z hz
  obtain ⟨e, he, rfl⟩ := List.mem_map.mp hz
  have := h e he
  simp [PyData.eqv]
  omega
theorem shaped_ints (es : List Int) : SeqAt.shaped (.list (es.map PyData.int)) = true ∧ SeqAt.shaped (.tuple (es.map PyData.int)) = true := by
  have h : ∀ x ∈ es.map PyData.int, x.canLay0 = true ∧ x.depth ≤ 60 := fun x hx => by
    obtain ⟨p, _, rfl⟩ := List.mem_map.mp hx
    simp [PyData.canLay0, PyData.depth]
  exact ⟨shaped_lst h, shaped_tup h⟩
theorem str_assoc (a b c : Str) : a ++ b ++ c = a ++ (b ++ c) := sgn_ext (by rw [sgn_app, sgn_app, sgn_app, sgn_app, List.append_assoc])
theorem text_no {its : Its} (h : ItsOk its) {c : Nat} (hc : c = 58 ∨ c = 62 ∨ c = 10) : c ∉ sgn (textOf its) := fun z => by
  by_cases hne : its = []
  · subst hne
    have : ∀ c ∈ sgn (textOf []), c = 58 ∨ c = 62 ∨ c = 10 → False := by decide +kernel
    exact this c z hc
  · rw [← text_join hne] at z
    rcases join_mem z with z | ⟨x, hx, z⟩
    · have : ∀ c ∈ sgn (Str.ofString " + "), c = 58 ∨ c = 62 ∨ c = 10 → False := by decide +kernel
      exact this c z hc
    · obtain ⟨p, hp, rfl⟩ := List.mem_map.mp hx
      exact itS_no h (.inr hc) p hp z
abbrev coS : Str := Str.ofString ": "
abbrev arS : Str := Str.ofString " -> "
def restS (p : Ln) : Str := textOf p.1 ++ arS ++ textOf p.2
theorem line_eq (m : Mv) (p : Ln) : lineS m p = m.name ++ coS ++ restS p := by
  unfold lineS restS
  rw [str_assoc (m.name ++ Str.ofString ": " ++ textOf p.1), str_assoc (m.name ++ Str.ofString ": "), str_assoc (textOf p.1)]
theorem line_part {kn : List Str} {mv : List Mv} (h : GoodBk kn mv) {b : Bool} {j : Nat} {m : Mv} (hj : mv[j]? = some m) {p : Ln} (hp : LnOk kn b m p) : Txt.partition (lineS m p) coS = (m.name, coS, restS p) ∧ Txt.partition (restS p) arS = (textOf p.1, arS, textOf p.2) := by
  obtain ⟨h1, h2⟩ := h.exOk hj
  have o1 := h1.perm hp.t
  have o2 := h2.perm hp.g
  constructor
  · rw [line_eq]
    have e : (sgn coS)[0]? = some 58 := by decide +kernel
    refine part_is e (once_of e (by decide +kernel)) ((h.nameOk hj).no (by omega)) fun z => ?_
    unfold restS at z
    rw [sgn_app, sgn_app] at z
    rcases List.mem_append.mp z with z | z
    · rcases List.mem_append.mp z with z | z
      · exact text_no o1 (by omega) z
      · exact absurd z (by decide +kernel)
    · exact text_no o2 (by omega) z
  · have e : (sgn arS)[2]? = some 62 := by decide +kernel
    exact part_is e (once_of e (by decide +kernel)) (text_no o1 (by omega)) (text_no o2 (by omega))
theorem le_all {lo hi : List Int} (h : (List.zipWith (fun a b => decide (a ≤ b)) lo hi).all id = true) (i : Nat) (a b : Int) (e1 : lo[i]? = some a) (e2 : hi[i]? = some b) : a ≤ b := by
  rw [List.all_eq_true] at h
  have := h (decide (a ≤ b)) (List.mem_iff_getElem?.mpr ⟨i, by rw [List.getElem?_zipWith, e1, e2]⟩)
  exact of_decide_eq_true this
def g_is_move {K : PySem.W.Frag} : GF K := fun cs Q => ∃ (d : PyData) (wd : Int), cs = [.d d, .d (.int wd)] ∧ (0 < wd ∧ wd ≤ 1000) ∧ SmallMove d ∧ Q (.d (.bool (fMove d wd))) cs
def g_read_move {K : PySem.W.Frag} : GF K := fun cs Q => ∃ (kn : List Str) (mv : List Mv) (j : Nat) (m : Mv) (p : Ln), cs = [.d (.tuple (kn.map PyData.str)), .d (.str (lineS m p))] ∧ GoodBk kn mv ∧ mv[j]? = some m ∧ LnOk kn true m p ∧ Q (.d (moveD m)) cs
section
variable {P : Program} {w : World} {K : PySem.W.Frag} {mg : Str → Option Value} {base : Heap} {f T : Addr} {fd : FuncData} {Ps : List Addr}
abbrev sread_extended : Stmt := top 21
theorem scread_extended : FnScope ["book", "text", "entries"] ["book", "text"] (defScope sread_extended) := ⟨rfl, rfl, rfl, by decide +kernel, rfl, by decide +kernel, by decide +kernel⟩
theorem ok_read_extended (F : Fun K "read_extended" "read_extended" sread_extended f fd) (G : Glb mg) (G1 : Glb1 K mg) (D_read_entries : Def P w K mg base "read_entries" (5) ["kinds", "text", "most"] (spA K Ps g_read_entries)) : FnOk P w K mg base CX0 (6) f fd ["book", "text"] (spA K Ps g_read_extended) := by
  obtain ⟨t1, cM⟩ := G1.mostNumber
  refine ok_fn F scread_extended (fun cs Q' h => ?_) (by decide) fun cdv A outer s H E hr => ?_
  · obtain ⟨kn, mv, es, its, rfl, hB, he, ho, hp, h⟩ := h
    rfl
  have nd := scread_extended.nd
  refine ⟨_, ?fs, (pss_cons (ps_set (i := 2) nd rfl (Or.inl rfl) (pe_c D_read_entries (hr.mono (by decide)) (pa_cons (pe_ix ix_tup (pv 0) pe_int (fun _ _ => rfl)) (pa_cons (pv 1) (pa_cons (pe_gI cM) pa_nil)))))
    (pss_cons (ps_if (pt_cmp (pc_isN (pv 2))) (pss_one L2.ps_never) pss_nil)
    (pss_one (ps_ret (pv 2))))), ?inst, fun cs Q' hg => ?body⟩
  case inst =>
    dsimp only [cxOf, Cx.nox, Cx.wish, List.map]
    infer_instance
  case body =>
    obtain ⟨kn, mv, es, its, rfl, hB, he, ho, hp, h⟩ := hg
    have h6 := hB.six
    have hR := rd_stock (m := 10 ^ 30) hp (bk_kn hB) (by omega) hB.kindOk he (Nat.le_refl _) fun e z => (ho e z).imp id id
    simp [and_assoc]
    refine ⟨kn, _, its, es, 10 ^ 30, rfl, hR, ?_⟩
    simp [and_assoc]
    exact h
variable {k : Nat}
theorem br_is_move (F : FnOk P w K mg base CX0 k f fd ["value", "width"] (spMove K Ps)) : FnOk P w K mg base CX0 k f fd ["value", "width"] (spA K Ps g_is_move) := bridge F fun vs H Q E cs Ls Q' hR ht ⟨d, wd, e, h1, h2, hq⟩ q => by
  subst e
  obtain ⟨v, u, L, L', rfl, r, r'⟩ := reps2 hR
  exact ⟨v, d, wd, by rw [r'.1.int_inv], h1, h2, r.1.dp, ht, fun H' e => q _ H' _ e (.bl _) hq⟩
end
end Fw


namespace Fw
open PySem PySem.Spec PyProof.Rows L2 GxR Gx Gy RZ Mint
open PySem.Builtin.Str (subAt strSub occurrences partsBetween strKind)
/-! ### read_book -/
def g_is_book {K : PySem.W.Frag} : GF K := fun cs Q => ∃ d : PyData, cs = [.d d] ∧ SmallBook d ∧ Q (.d (.bool (fBook d))) cs
theorem take_bk {kn : List Str} {mv : List Mv} (h : GoodBk kn mv) (i : Nat) : GoodBk kn (mv.take i) :=
  ⟨h.one, h.six, by rw [List.length_take]; have := h.eight; omega, h.kinds, fun j m hj => h.moves j m (take_good hj)⟩
abbrev nlS : Str := Str.ofString "\n"
abbrev kdS : Str := Str.ofString "kinds"
theorem head_no {kn : List Str} {mv : List Mv} (h : GoodBk kn mv) : 10 ∉ sgn (headS kn) := fun z => by
  unfold headS at z
  rw [sgn_app] at z
  rcases List.mem_append.mp z with z | z
  · exact absurd z (by decide +kernel)
  · rcases join_mem z with z | ⟨x, hx, z⟩
    · exact absurd z (by decide +kernel)
    · exact (h.kindOk x hx).no (by omega) z
theorem line_no {kn : List Str} {mv : List Mv} (h : GoodBk kn mv) {b : Bool} {j : Nat} {m : Mv} (hj : mv[j]? = some m) {p : Ln} (hp : LnOk kn b m p) : 10 ∉ sgn (lineS m p) := fun z => by
  obtain ⟨h1, h2⟩ := h.exOk hj
  have o1 := h1.perm hp.t
  have o2 := h2.perm hp.g
  unfold lineS at z
  rw [sgn_app, sgn_app, sgn_app, sgn_app] at z
  rcases List.mem_append.mp z with z | z
  · rcases List.mem_append.mp z with z | z
    · rcases List.mem_append.mp z with z | z
      · rcases List.mem_append.mp z with z | z
        · exact (h.nameOk hj).no (by omega) z
        · exact absurd z (by decide +kernel)
      · exact text_no o1 (by omega) z
    · exact absurd z (by decide +kernel)
  · exact text_no o2 (by omega) z
theorem lines_get {kn : List Str} {mv : List Mv} {ls : List Ln} {i : Nat} {x : Str} (h : (List.zipWith lineS mv ls)[i]? = some x) : ∃ m p, mv[i]? = some m ∧ ls[i]? = some p ∧ x = lineS m p := by
  rw [List.getElem?_zipWith] at h
  cases e1 : mv[i]? with
  | none => rw [e1] at h; cases h
  | some a =>
    cases e2 : ls[i]? with
    | none => rw [e1, e2] at h; cases h
    | some p => rw [e1, e2] at h; cases h; exact ⟨a, p, rfl, rfl, rfl⟩
theorem book_split {kn : List Str} {mv : List Mv} (h : GoodBk kn mv) {b : Bool} {ls : List Ln} (hl : LnsOk kn b mv ls) : Txt.split (bookT kn mv ls) nlS = linesS kn mv ls := by
  unfold bookT
  rw [txt_join]
  have e : (sgn nlS)[0]? = some 10 := by decide +kernel
  refine split_is (o := 0) (c := 10) (by simp [linesS]) (by decide +kernel) e (once_of e (by decide +kernel)) fun x hx => ?_
  rcases List.mem_cons.mp hx with rfl | hx
  · exact head_no h
  · obtain ⟨i, hi⟩ := List.mem_iff_getElem?.mp hx
    obtain ⟨m, p, e1, e2, rfl⟩ := lines_get (kn := kn) hi
    exact line_no h e1 (hl.ok i m p e1 e2)
theorem head_split {kn : List Str} {mv : List Mv} (h : GoodBk kn mv) : Txt.split (headS kn) sp1 = kdS :: kn := by
  have e0 : headS kn = Str.join sp1 (kdS :: kn) := by
    unfold headS
    rw [txt_join]
    cases kn with
    | nil => exact absurd h.one (by decide)
    | cons k r =>
      rw [join_two]
      have : Str.ofString "kinds " = kdS ++ sp1 := by decide +kernel
      rw [this]
  rw [e0]
  have e : (sgn sp1)[0]? = some 32 := by decide +kernel
  refine split_is (o := 0) (c := 32) (by simp) (by decide +kernel) e (once_of e (by decide +kernel)) fun x hx => ?_
  rcases List.mem_cons.mp hx with rfl | hx
  · decide +kernel
  · exact (h.kindOk x hx).no (by omega)
theorem book_len {kn : List Str} {mv : List Mv} (h : GoodBk kn mv) {b : Bool} {ls : List Ln} (hl : LnsOk kn b mv ls) : (bookT kn mv ls).length ≤ 100000 := by
  have h1 := sum_le (f := (·.length)) (b := 1300) _ (lines_bound h hl)
  have h2 := lines_len kn mv ls
  have h3 := h.eight
  have h4 := join_len nlS (linesS kn mv ls)
  have a1 : nlS.length = 1 := by decide +kernel
  rw [a1] at h4
  show (Txt.join nlS (linesS kn mv ls)).length ≤ _
  omega
def g_read_book {K : PySem.W.Frag} : GF K := fun cs Q => ∃ (kn : List Str) (mv : List Mv) (ls : List Ln), cs = [.d (.str (bookT kn mv ls))] ∧ GoodBk kn mv ∧ LnsOk kn true mv ls ∧ Q (.d (bkD kn mv)) cs
theorem x_isbook {K : PySem.W.Frag} {kn : List Str} {mv : List Mv} {Q : Cn K → List (Cn K) → Prop} (h : GoodBk kn mv ∧ Q (.d (.bool true)) [.d (bkD kn mv)]) : g_is_book [.d (bkD kn mv)] Q := ⟨_, rfl, h.1.small, by rw [h.1.isBook]; exact h.2⟩
theorem cut1 {d : PyData} {ds : List PyData} : cutF (d :: ds) (some 1) none = ds := cutF_from (d :: ds) 1
section
variable {P : Program} {w : World} {K : PySem.W.Frag} {mg : Str → Option Value} {base : Heap} {f T : Addr} {fd : FuncData} {Ps : List Addr}
variable {k : Nat}
theorem br_is_book (F : FnOk P w K mg base CX0 k f fd ["value"] (spBook K Ps)) : FnOk P w K mg base CX0 k f fd ["value"] (spA K Ps g_is_book) := bridge F fun vs H Q E cs Ls Q' hR ht ⟨d, e, h1, hq⟩ q => by
  subst e
  obtain ⟨v, L, rfl, r⟩ := reps1 hR
  exact ⟨[d], .cons r.1.dp .nil, rfl, h1, ht, fun H' e => q _ H' _ e (.bl _) hq⟩
end
end Fw


namespace Fw
open PySem PySem.Spec PyProof.Rows L2 GxR Gx Gy RZ Mint
/-! ### while -/
section
variable {K : PySem.W.Frag} {Ps : List Addr} {s : Sto K} {D : AEnds K}
def aWhile {K : PySem.W.Frag} (c : AT K) (b : AS K) : AS K := fun D s => ∃ W : Nat → Sto K → Prop, (∃ m, W m s) ∧ ∀ m s, W m s →
  c s fun k s1 => if k = true then ∃ N : Sto K → Prop, (∀ s', N s' → ∃ m', m' < m ∧ W m' s') ∧ b { D with nx := N, ct := N, bk := D.nx } s1 else D.nx s1
instance snd_while {tc : TT} {tb : TS} {fc : AT K} {fb : AS K} [c : SndT K Ps tc fc] [b : SndS K Ps tb fb] : SndS K Ps (tWhile tc tb) (aWhile fc fb) := ⟨fun {base M P H σ s fp D D'} rs h d => by
  obtain ⟨W, ⟨m, w0⟩, turn⟩ := h
  refine ⟨fun m σ H => ∃ s fp, RS K Ps base M P H σ s fp ∧ W m s, ⟨m, s, fp, rs, w0⟩, ?_⟩
  rintro m σ1 H1 ⟨s1, fp1, rs1, w1⟩
  refine c.run rs1 (turn m s1 w1) fun k H2 s2 rs2 k2 h2 => ?_
  cases k with
  | true =>
    obtain ⟨N, hN, h2⟩ := h2
    rw [if_pos rfl]
    refine ⟨fun σ' H' => ∃ s' fp', RS K Ps base M P H' σ' s' fp' ∧ N s', fun σ' H' ⟨s', fp', r', n'⟩ => ?_, ?_⟩
    · obtain ⟨m', lt, w'⟩ := hN s' n'
      exact ⟨m', lt, s', fp', r', w'⟩
    · exact b.run rs2 h2 ⟨fun r q => ⟨_, _, r, q⟩, fun r q => d.nx r q, fun r q => ⟨_, _, r, q⟩, d.rt⟩
  | false => exact d.nx rs2 h2⟩
theorem wh_intro {c : AT K} {b : AS K} (W : Nat → Sto K → Prop) {m : Nat} (w0 : W m s)
    (h : ∀ m s, W m s → c s fun k s1 => if k = true then ∃ N : Sto K → Prop, (∀ s', N s' → ∃ m', m' < m ∧ W m' s') ∧ b { D with nx := N, ct := N, bk := D.nx } s1 else D.nx s1) : aWhile c b D s := ⟨W, ⟨m, w0⟩, h⟩
/-! ### len of a text -/
def rLenS : List V → Hp → VK → Prop := fun xs H Q => ∃ z, xs = [.str z] ∧ z.length ≤ sizeLine ∧ Q (.int z.length) H
theorem cr_lenS {X : Cx} : CallR X (.builtin "len") rLenS := call_len_str
def dLenS {K : PySem.W.Frag} (cs : List (Cn K)) (Q : Cn K → Prop) : Prop := ∃ z : Str, cs = [.d (.str z)] ∧ z.length ≤ sizeLine ∧ Q (.d (.int z.length))
instance call_lenSC : CallD K rLenS dLenS := ⟨fun {H vs cs Ls Q Q'} hR hg q => by
  obtain ⟨z, rfl, h1, h2⟩ := hg
  cases hR with
  | cons r t =>
    cases t
    exact ⟨z, by rw [r.1.str_inv], h1, q _ H (.d (.int _)) [] .refl ⟨.int _, rfl⟩ (fun a z => nomatch z) h2⟩⟩
@[simp] theorem x_lenS {cs : List (Cn K)} {R : Cn K → Prop} : dLenS cs R ↔ ∃ z : Str, cs = [.d (.str z)] ∧ z.length ≤ sizeLine ∧ R (.d (.int z.length)) := Iff.rfl
end
end Fw


namespace Fw
open PySem PySem.Spec PyProof.Rows L2 GxR Gx Gy RZ Mint
/-! ### places in a text -/
theorem cutS_at {T : Str} {A R : List Nat} (h : sgn T = A ++ R) (n : Nat) : sgn (cutS T (some (A.length : Int)) (some ((A.length : Int) + (n : Nat)))) = R.take n := by
  have hl : T.length = A.length + R.length := by rw [← sgn_len, h, List.length_append]
  unfold cutS
  rw [show ((A.length : Int) + (n : Nat)) = ((A.length + n : Nat) : Int) from by omega, HT.sIx_nat, HT.sIx_nat]
  show List.take _ (List.drop _ (sgn T)) = _
  rw [h, show min A.length T.length = A.length by omega, List.drop_left]
  rcases Nat.le_total (A.length + n) T.length with h1 | h1
  · rw [Nat.min_eq_left h1, Nat.add_sub_cancel_left]
  · rw [Nat.min_eq_right h1, List.take_of_length_le (by omega), List.take_of_length_le (by omega)]
theorem str_eq {x y : Str} : x = y ↔ sgn x = sgn y := ⟨fun h => by rw [h], sgn_ext⟩
def hdOk (R : List Nat) : Prop := ∀ c r, R = c :: r → okSign c = false
theorem ok_sign {c : Nat} (h : (48 ≤ c ∧ c ≤ 57) ∨ (97 ≤ c ∧ c ≤ 122)) : okSign c = true := by
  have : ∀ d : Fin 123, ((48 ≤ d.val ∧ d.val ≤ 57) ∨ (97 ≤ d.val ∧ d.val ≤ 122)) → okSign d.val = true := by decide +kernel
  exact this ⟨c, by omega⟩ h
theorem word_is {T w : Str} {A R : List Nat} (h : sgn T = A ++ (sgn w ++ R)) (hw : ∀ c ∈ sgn w, (48 ≤ c ∧ c ≤ 57) ∨ (97 ≤ c ∧ c ≤ 122)) (hR : hdOk R) : wordS T A.length = w := by
  apply sgn_ext
  show (List.takeWhile okSign ((sgn T).drop A.length)) = sgn w
  rw [h, List.drop_left, List.takeWhile_append_of_pos fun c hc => ok_sign (hw c hc)]
  cases R with
  | nil => simp
  | cons c r =>
    rw [List.takeWhile_cons_of_neg (by rw [hR c r rfl]; exact Bool.false_ne_true), List.append_nil]
theorem kind_signs {x : Str} (h : KindOk x) : ∀ c ∈ sgn x, (48 ≤ c ∧ c ≤ 57) ∨ (97 ≤ c ∧ c ≤ 122) := h.ok
theorem num_signs (n : Nat) : ∀ c ∈ sgn (numS n), (48 ≤ c ∧ c ≤ 57) ∨ (97 ≤ c ∧ c ≤ 122) := fun c hc => .inl (numS_in hc)
/-! ### move_index -/
theorem name_of {m : Mv} : nameOf (moveD m) = m.name := rfl
theorem idx_name {kn : List Str} {mv : List Mv} (h : GoodBk kn mv) {j : Nat} {m : Mv} (hj : mv[j]? = some m) : idxOf m.name (mv.map moveD) 0 = some j := by
  have e := idx_step (x := m.name) (mv.map moveD) j 0 (moveD m) (by rw [List.getElem?_map, hj]; rfl) (fun i m' hi hm' => ?_) rfl
  · rw [e, Nat.zero_add]
  · rw [List.getElem?_map] at hm'
    cases e1 : mv[i]? with
    | none => rw [e1] at hm'; cases hm'
    | some m2 =>
      rw [e1] at hm'
      cases hm'
      intro z
      have hn := (List.nodup_append.mp h.nodup).2.1
      have hl := (List.getElem?_eq_some_iff.mp e1).1
      have := (List.getElem?_inj (i := i) (j := j) (by rw [List.length_map]; exact hl) hn).mp (by rw [List.getElem?_map, List.getElem?_map, e1, hj]; exact congrArg some z)
      omega
theorem idx_num {kn : List Str} {mv : List Mv} (h : GoodBk kn mv) (n : Nat) : idxOf (numS n) (mv.map moveD) 0 = none := by
  refine idx_none _ _ fun d hd z => ?_
  obtain ⟨m, hm, rfl⟩ := List.mem_map.mp hd
  obtain ⟨j, hj⟩ := List.mem_iff_getElem?.mp hm
  obtain ⟨c0, cs, e, h0, _⟩ := (h.moves j m hj).name
  have hL : ∀ c ∈ lettersS.cps.toList, 97 ≤ c ∧ c ≤ 122 := by decide +kernel
  have e' : sgn (numS n) = c0 :: (cs ++ [97 + (6 + j)]) := by rw [← show m.name = numS n from z]; exact e
  have := numS_in (n := n) (c := c0) (by rw [e']; exact List.mem_cons_self)
  have := hL _ h0
  omega
end Fw


namespace Fw
open PySem PySem.Spec PyProof.Rows L2 GxR Gx Gy RZ Mint
/-! ### read_step, read_steps -/
def ixD : Option Nat → PyData
  | some i => .int i
  | none => .none
def g_move_index {K : PySem.W.Frag} : GF K := fun cs Q => ∃ (kn : List Str) (mv : List Mv) (x : Str), cs = [.d (bkD kn mv), .d (.str x)] ∧ GoodBk kn mv ∧ Q (.d (ixD (idxOf x (mv.map moveD) 0))) cs
def semS : Str := Str.ofString "; "
def seqT (mv : List Mv) (r : List RSt) : Str := Str.join (Str.ofString "; ") (stTs mv r)
theorem rnT_seq {mv : List Mv} {r : List RSt} (h : r ≠ []) : rnT mv r = seqT mv r := by
  unfold rnT jn seqT
  rw [if_neg (by rw [stTs_map]; simpa using h), txt_join]
def g_read_step {K : PySem.W.Frag} (N : Nat) : GF K := fun cs Q => ∃ (kn : List Str) (mv : List Mv) (T : Str) (A R : List Nat) (s : RSt) (k d : Nat), cs = [.d (bkD kn mv), .d (.str T), .d (.int A.length), .d (.int d)] ∧ GoodBk kn mv ∧ k < N ∧ k ≤ 6 ∧ GSt mv.length tt3 k s ∧ k + 1 ≤ d ∧ T.length ≤ sizeLine ∧ sgn T = A ++ (sgn (stT mv s) ++ R) ∧ hdOk R ∧
  Q (.d (.tuple [stD s, .int (A.length + (stT mv s).length : Nat)])) cs
def g_read_steps {K : PySem.W.Frag} (N : Nat) : GF K := fun cs Q => ∃ (kn : List Str) (mv : List Mv) (T : Str) (A R : List Nat) (r : List RSt) (k d : Nat), cs = [.d (bkD kn mv), .d (.str T), .d (.int A.length), .d (.int d)] ∧ GoodBk kn mv ∧ k < N ∧ k ≤ 6 ∧ GRn mv.length tt3 k r ∧ r ≠ [] ∧ k + 1 ≤ d ∧ T.length ≤ sizeLine ∧ sgn T = A ++ (sgn (seqT mv r) ++ R) ∧ (R = [] ∨ ∃ q, R = 41 :: q) ∧
  Q (.d (.tuple [.tuple (rnD r), .int (A.length + (seqT mv r).length : Nat)])) cs
theorem x_word {K : PySem.W.Frag} {T w : Str} {A R : List Nat} {Q : Cn K → List (Cn K) → Prop} (h : sgn T = A ++ (sgn w ++ R)) (hw : ∀ c ∈ sgn w, (48 ≤ c ∧ c ≤ 57) ∨ (97 ≤ c ∧ c ≤ 122)) (hR : hdOk R) (hT : T.length ≤ sizeLine) (hQ : Q (.d (.str w)) [.d (.str T), .d (.int A.length)]) : g_word_at [.d (.str T), .d (.int A.length)] Q :=
  ⟨T, A.length, rfl, by rw [← sgn_len, h, List.length_append]; omega, hT, by rw [word_is h hw hR]; exact hQ⟩
theorem x_rnum {K : PySem.W.Frag} {n : Nat} {Q : Cn K → List (Cn K) → Prop} (hn : n ≤ 10 ^ 30) (hQ : Q (.d (.int n)) [.d (.str (numS n)), .d (.int (10 ^ 30))]) : g_read_number [.d (.str (numS n)), .d (.int (10 ^ 30))] Q :=
  ⟨numS n, 10 ^ 30, rfl, (by decide), (by have h1 := numS_len hn; have h2 : 1000 ≤ sizeLine := (by decide); omega), by rw [readN_num hn]; exact hQ⟩
theorem cut_lit {T y : Str} {A R : List Nat} (h : sgn T = A ++ R) (n : Nat) {a b : Int} (ha : a = A.length) (hb : b = A.length + (n : Nat)) (hy : sgn y = R.take n) : cutS T (some a) (some b) = y := by
  subst ha
  subst hb
  exact sgn_ext (by rw [cutS_at h n, hy])
theorem hd_c0 {c : Nat} {r : List Nat} (h : okSign c = false) : hdOk (c :: r) := fun c' r' e => by cases e; exact h
theorem join_app {y : Str} : ∀ {a b : List Str}, a ≠ [] → b ≠ [] → Str.join y (a ++ b) = Str.join y a ++ y ++ Str.join y b
  | [], _, h, _ => absurd rfl h
  | [x], b, _, hb => by
    cases b with
    | nil => exact absurd rfl hb
    | cons z r => exact join_two y x z r
  | x :: z :: a, b, _, hb => by
    rw [List.cons_append, List.cons_append, join_two, join_two, ← List.cons_append, join_app (a := z :: a) (by simp) hb]
    exact sgn_ext (by simp only [sgn_app, List.append_assoc])
theorem seq_app {mv : List Mv} {a b : List RSt} (ha : a ≠ []) (hb : b ≠ []) : seqT mv (a ++ b) = seqT mv a ++ semS ++ seqT mv b := by
  unfold seqT
  rw [stTs_map, List.map_append, join_app (by simpa using ha) (by simpa using hb), stTs_map, stTs_map]
  rfl
theorem seq_one (mv : List Mv) (s : RSt) : seqT mv [s] = stT mv s := rfl
theorem sem_sgn : sgn semS = [59, 32] := by decide +kernel
theorem seq_cons {mv : List Mv} (s : RSt) (r : List RSt) (R : List Nat) : ∃ R', sgn (seqT mv (s :: r)) ++ R = sgn (stT mv s) ++ R' ∧ ((R = [] ∨ ∃ q, R = 41 :: q) → hdOk R') := by
  cases r with
  | nil =>
    refine ⟨R, rfl, fun h => ?_⟩
    rcases h with rfl | ⟨q, rfl⟩
    · exact fun c r e => nomatch e
    · exact hd_c0 (by decide +kernel)
  | cons x r =>
    refine ⟨[59, 32] ++ (sgn (seqT mv (x :: r)) ++ R), ?_, fun _ => hd_c0 (by decide +kernel)⟩
    rw [show s :: x :: r = [s] ++ x :: r from rfl, seq_app (by simp) (by simp), seq_one, sgn_app, sgn_app, sem_sgn]
    simp only [List.append_assoc]
theorem hd_c {c : Nat} {r : List Nat} (h : okSign c = false) : hdOk (c :: r) := fun c' r' e => by cases e; exact h
section
variable {P : Program} {w : World} {K : PySem.W.Frag} {mg : Str → Option Value} {base : Heap} {f T : Addr} {fd : FuncData} {Ps : List Addr}
variable {k : Nat}
theorem br_move_index (F : FnOk P w K mg base CX0 k f fd ["book", "name"] (spIndex K)) : FnOk P w K mg base CX0 k f fd ["book", "name"] (spA K Ps g_move_index) := bridge F fun vs H Q E cs Ls Q' hR ht ⟨kn, mv, x, e, h1, hq⟩ q => by
  subst e
  obtain ⟨v, u, L, L', rfl, r, r'⟩ := reps2 hR
  refine ⟨v, x, kn.map PyData.str, mv.map moveD, by rw [r'.1.str_inv], r.1.dp, fun d hd => ?_, by rw [List.length_map]; have := h1.eight; omega, fun H' e => q _ H' _ e ?_ hq⟩
  · obtain ⟨m, _, rfl⟩ := List.mem_map.mp hd
    exact ⟨_, _, rfl⟩
  · cases idxOf x (mv.map moveD) 0 with
    | none => exact .non
    | some i => exact .int _
abbrev sread_step : Stmt := top 28
theorem scread_step : FnScope ["book", "text", "at", "depth", "word", "move", "times", "run"] ["book", "text", "at", "depth"] (defScope sread_step) := ⟨rfl, rfl, rfl, by decide +kernel, rfl, by decide +kernel, by decide +kernel⟩
theorem ok_read_step {N lv : Nat} (F : Fun K "read_step" "read_step" sread_step f fd) (G : Glb mg) (hlv : 2 ≤ lv) (G1 : Glb1 K mg) (D_word_at : Def P w K mg base "word_at" (1) ["text", "at"] (spA K Ps g_word_at)) (D_move_index : Def P w K mg base "move_index" (1) ["book", "name"] (spA K Ps g_move_index)) (D_read_number : Def P w K mg base "read_number" (2) ["word", "most"] (spA K Ps g_read_number)) (D_read_steps : Def P w K mg base "read_steps" (lv) ["book", "text", "at", "depth"] (spA K Ps (g_read_steps N))) : FnOk P w K mg base CX0 (lv + 1) f fd ["book", "text", "at", "depth"] (spA K Ps (g_read_step (N + 1))) := by
  obtain ⟨t1, cM⟩ := G1.mostNumber
  refine ok_fn F scread_step (fun cs Q' h => ?_) (by decide) fun cdv A outer s H E hr => ?_
  · obtain ⟨kn, mv, T, A, R, s, k, d, rfl, hB, hk, hk2, hs, hd, hT, hsg, hR, h⟩ := h
    rfl
  have nd := scread_step.nd
  refine ⟨_, ?fs, (pss_cons (ps_set (i := 4) nd rfl (Or.inl rfl) (pe_c D_word_at (hr.mono (by omega)) (pa_cons (pv 1) (pa_cons (pv 2) pa_nil))))
    (pss_cons (ps_aug (i := 2) nd rfl (Or.inl rfl) (pe_callB cr_lenS rfl G.len PySem.boot_len (pa_cons (pv 4) pa_nil)) ip_add)
    (pss_cons (ps_set (i := 5) nd rfl (Or.inl rfl) (pe_c D_move_index (hr.mono (by omega)) (pa_cons (pv 0) (pa_cons (pv 4) pa_nil))))
    (pss_cons (ps_if (pt_cmp (pc_notN (pv 5))) (pss_one (ps_ret (pe_tup (pa_cons (pe_tup (pa_cons pe_str (pa_cons (pv 5) pa_nil))) (pa_cons (pv 2) pa_nil))))) pss_nil)
    (pss_cons (ps_set (i := 6) nd rfl (Or.inl rfl) (pe_c D_read_number (hr.mono (by omega)) (pa_cons (pv 4) (pa_cons (pe_gI cM) pa_nil))))
    (pss_cons (ps_if (PW.pt (pw_or (pt_cmp (pc_isN (pv 6))) (pw_or (pt_cmpR op_eq (pv 6) pe_int (nomark _)) (pw_or1 (pt_cmpR op_ne (pe_slice sl_str (pv 1) (po_some (pv 2)) (po_some (pe_op op_add (pv 2) pe_int))) pe_str (nomark _)))))) (pss_one L2.ps_never) pss_nil)
    (pss_cons (ps_asg (pe_c D_read_steps (hr) (pa_cons (pv 0) (pa_cons (pv 1) (pa_cons (pe_op op_add (pv 2) pe_int) (pa_cons (pe_op op_sub (pv 3) pe_int) pa_nil))))) (pg_tup (n := 2) (by rfl) (pgs_cons (pg_name (i := 7) nd rfl (Or.inl rfl)) (pgs_cons (pg_name (i := 2) nd rfl (Or.inl rfl)) pgs_nil))))
    (pss_cons (ps_if (pt_cmpR op_ne (pe_slice sl_str (pv 1) (po_some (pv 2)) (po_some (pe_op op_add (pv 2) pe_int))) pe_str (nomark _)) (pss_one L2.ps_never) pss_nil)
    (pss_one (ps_ret (pe_tup (pa_cons (pe_tup (pa_cons pe_str (pa_cons (pv 6) (pa_cons (pv 7) pa_nil)))) (pa_cons (pe_op op_add (pv 2) pe_int) pa_nil))))))))))))), ?inst, fun cs Q' hg => ?body⟩
  case inst =>
    dsimp only [cxOf, Cx.nox, Cx.wish, List.map]
    infer_instance
  case body =>
    obtain ⟨kn, mv, T, A, R, s, k, d, rfl, hB, hk, hk2, hs, hd, hT, hsg, hR, h⟩ := hg
    cases s with
    | mv j =>
      have hj : j < mv.length := by
        cases k with
        | zero => obtain ⟨m, e, h⟩ := hs; cases e; exact h
        | succ k =>
          rcases hs with ⟨m, e, h⟩ | ⟨_, _, e, _⟩
          · cases e; exact h
          · cases e
      obtain ⟨m, e1, e2, e3⟩ := nm_ok hB hj
      rw [show stT mv (.mv j) = m.name from e2] at h hsg
      have e4 := idx_name hB e1
      have l1 := e3.len
      have z1 : 10000000 ≤ sizeLine := by decide
      simp [and_assoc]
      refine x_word hsg (kind_signs e3) hR hT ?_
      simp [and_assoc]
      refine ⟨by omega, kn, mv, m.name, rfl, hB, ?_⟩
      simp [and_assoc, e4, ixD]
      exact h
    | rep c r =>
      cases k with
      | zero => obtain ⟨m, e, h⟩ := hs; cases e
      | succ k =>
        rcases hs with ⟨m, e, _⟩ | ⟨c', r', e, h1, h2, h3, h4, h5⟩
        · cases e
        cases e
        have hr' : GRn mv.length tt3 k r := ⟨h4, h5⟩
        have z1 : 10000000 ≤ sizeLine := by decide
        have l2 := numS_len h2
        have e4 := idx_num hB c
        have e5 : stT mv (.rep c r) = numS c ++ Str.ofString " x (" ++ seqT mv r ++ Str.ofString ")" := by
          rw [← rnT_seq h3]
          rfl
        rw [e5] at hsg h
        have sx : sgn (Str.ofString " x (") = [32, 120, 32, 40] := by decide +kernel
        have sp : sgn (Str.ofString ")") = [41] := by decide +kernel
        rw [sgn_app, sgn_app, sgn_app, sx, sp] at hsg
        have g1 : sgn T = A ++ (sgn (numS c) ++ ([32, 120, 32, 40] ++ (sgn (seqT mv r) ++ (41 :: R)))) := by rw [hsg]; simp
        have g2 : sgn T = (A ++ sgn (numS c)) ++ ([32, 120, 32, 40] ++ (sgn (seqT mv r) ++ (41 :: R))) := by rw [hsg]; simp
        have g3 : sgn T = (A ++ sgn (numS c) ++ [32, 120, 32, 40]) ++ (sgn (seqT mv r) ++ (41 :: R)) := by rw [hsg]; simp
        have g4 : sgn T = (A ++ sgn (numS c) ++ [32, 120, 32, 40] ++ sgn (seqT mv r)) ++ (41 :: R) := by rw [hsg]; simp
        simp [and_assoc]
        refine x_word g1 (num_signs c) (hd_c (by decide +kernel)) hT ?_
        simp [and_assoc]
        refine ⟨by omega, kn, mv, numS c, rfl, hB, ?_⟩
        simp [and_assoc, e4, ixD]
        refine x_rnum h2 ?_
        have c0 : ¬ c = 0 := by omega
        simp [and_assoc, c0]
        have l3 : (seqT mv r).length ≤ T.length := by
          have := congrArg List.length hsg
          rw [sgn_len] at this
          simp only [List.length_append, sgn_len] at this
          omega
        refine ⟨hT, cut_lit g2 4 (by simp only [List.length_append, sgn_len, List.length_cons, List.length_nil]; omega) (by simp only [List.length_append, sgn_len, List.length_cons, List.length_nil]; omega) (by rw [sx]; rfl), kn, mv, T, _, 41 :: R, r, k, d - 1, ?_, hB, by omega, by omega, hr', h3, by omega, hT, g3, .inr ⟨R, rfl⟩, ?_⟩
        · have ex : (A.length : Int) + ((numS c).length : Int) + 4 = ((A ++ sgn (numS c) ++ [32, 120, 32, 40]).length : Nat) := by simp only [List.length_append, sgn_len, List.length_cons, List.length_nil]; omega
          have ey : (d : Int) - 1 = ((d - 1 : Nat) : Int) := by omega
          rw [ex, ey]
        · have ez : (A ++ sgn (numS c) ++ [32, 120, 32, 40]).length = A.length + (numS c).length + 4 := by simp only [List.length_append, sgn_len, List.length_cons, List.length_nil]
          rw [ez]
          simp [and_assoc]
          refine ⟨hT, cut_lit g4 1 (by simp only [List.length_append, sgn_len, List.length_cons, List.length_nil]; omega) (by simp only [List.length_append, sgn_len, List.length_cons, List.length_nil]; omega) (by rw [sp]; rfl), ?_⟩
          have a1 : (Str.ofString " x (").length = 4 := by decide +kernel
          have a2 : (Str.ofString ")").length = 1 := by decide +kernel
          rw [Str.length_append, Str.length_append, Str.length_append, a1, a2] at h
          have ew : ((A.length + ((numS c).length + 4 + (seqT mv r).length + 1) : Nat) : Int) = (A.length : Int) + ((numS c).length : Int) + 4 + ((seqT mv r).length : Int) + 1 := by omega
          rw [ew] at h
          exact h
abbrev sread_steps : Stmt := top 27
theorem scread_steps : FnScope ["book", "text", "at", "depth", "step", "steps"] ["book", "text", "at", "depth"] (defScope sread_steps) := ⟨rfl, rfl, rfl, by decide +kernel, rfl, by decide +kernel, by decide +kernel⟩
theorem ok_read_steps {N lv : Nat} (F : Fun K "read_steps" "read_steps" sread_steps f fd) (G : Glb mg) (hlv : 2 ≤ lv)  (D_read_step : Def P w K mg base "read_step" (lv) ["book", "text", "at", "depth"] (spA K Ps (g_read_step N))) : FnOk P w K mg base CX0 (lv + 1) f fd ["book", "text", "at", "depth"] (spA K Ps (g_read_steps N)) := by
  refine ok_fn F scread_steps (fun cs Q' h => ?_) (by decide) fun cdv A outer s H E hr => ?_
  · obtain ⟨kn, mv, T, A, R, r, k, d, rfl, hB, hk, hk2, hrr, hne, hd, hT, hsg, hR, h⟩ := h
    rfl
  have nd := scread_steps.nd
  refine ⟨_, ?fs, (pss_cons (ps_if (pt_cmpR op_eq (pv 3) pe_int (nomark _)) (pss_one L2.ps_never) pss_nil)
    (pss_cons (ps_asg (pe_c D_read_step (hr) (pa_cons (pv 0) (pa_cons (pv 1) (pa_cons (pv 2) (pa_cons (pv 3) pa_nil))))) (pg_tup (n := 2) (by rfl) (pgs_cons (pg_name (i := 4) nd rfl (Or.inl rfl)) (pgs_cons (pg_name (i := 2) nd rfl (Or.inl rfl)) pgs_nil))))
    (pss_cons (ps_set (i := 5) nd rfl (Or.inl rfl) (pe_lst (pa_cons (pv 4) pa_nil)))
    (pss_cons (ps_while PassesOwn.never (pt_cmpR op_eq (pe_slice sl_str (pv 1) (po_some (pv 2)) (po_some (pe_op op_add (pv 2) pe_int))) pe_str (nomark _)) (pss_cons (ps_asg (pe_c D_read_step (hr) (pa_cons (pv 0) (pa_cons (pv 1) (pa_cons (pe_op op_add (pv 2) pe_int) (pa_cons (pv 3) pa_nil))))) (pg_tup (n := 2) (by rfl) (pgs_cons (pg_name (i := 4) nd rfl (Or.inl rfl)) (pgs_cons (pg_name (i := 2) nd rfl (Or.inl rfl)) pgs_nil))))
    (pss_one (ps_expr (pe_bm PySem.F.plainAttrs_list PySem.F.slot_list_append PySem.F.type_list_append mt_append (pv 5) (pa_cons (pv 4) pa_nil))))))
    (pss_one (ps_ret (pe_tup (pa_cons (pe_callTy cr_tuple rfl G.tuple (by decide +kernel) (pa_cons (pv 5) pa_nil)) (pa_cons (pv 2) pa_nil))))))))), ?inst, fun cs Q' hg => ?body⟩
  case inst =>
    dsimp only [cxOf, Cx.nox, Cx.wish, List.map]
    infer_instance
  case body =>
    obtain ⟨kn, mv, T, A, R, r, k, d, rfl, hB, hk, hk2, hrr, hne, hd, hT, hsg, hR, h⟩ := hg
    cases r with
    | nil => exact absurd rfl hne
    | cons s0 r0 =>
      obtain ⟨r, er⟩ : ∃ r, r = s0 :: r0 := ⟨_, rfl⟩
      have hn3 : r.length ≤ 3 := by rw [er]; exact hrr.three
      have d0 : ¬ d = 0 := by omega
      obtain ⟨R0, q1, q2⟩ := seq_cons (mv := mv) s0 r0 R
      have hs0 := hrr.all s0 List.mem_cons_self
      have hall : ∀ x ∈ r, GSt mv.length tt3 k x := by rw [er]; exact hrr.all
      rw [← er] at h hsg q1
      simp [and_assoc, d0]
      refine ⟨kn, mv, T, A, R0, s0, k, d, rfl, hB, hk, hk2, hs0, hd, hT, by rw [hsg, q1], q2 hR, ?_⟩
      simp [and_assoc]
      refine wh_intro (fun m s => ∃ (i : Nat) (x4 : PyData), 1 ≤ i ∧ i ≤ r.length ∧ m = r.length - i ∧ s = [.f (.d (bkD kn mv)), .f (.d (.str T)), .f (.d (.int (A.length + (seqT mv (r.take i)).length : Nat))), .f (.d (.int d)), .f (.d x4), .f (.l ((r.take i).map stD))]) ⟨1, stD s0, Nat.le_refl _, by rw [er]; simp, rfl, ?_⟩ fun m s ⟨i, x4, hi1, hi2, hm, es⟩ => ?_
      · rw [er]
        simp [seq_one]
      · subst es
        have l3 : (seqT mv r).length ≤ T.length := by
          have := congrArg List.length hsg
          rw [sgn_len] at this
          simp only [List.length_append, sgn_len] at this
          omega
        by_cases hin : i < r.length
        · obtain ⟨x, hx⟩ : ∃ x, r[i]? = some x := ⟨_, List.getElem?_eq_getElem hin⟩
          have ed : r.drop i = x :: r.drop (i + 1) := by
            rw [List.drop_eq_getElem_cons hin]
            have := (List.getElem?_eq_some_iff.mp hx).2
            rw [this]
          obtain ⟨R1, q3, q4⟩ := seq_cons (mv := mv) x (r.drop (i + 1)) R
          have esp : seqT mv r = seqT mv (r.take i) ++ semS ++ seqT mv (x :: r.drop (i + 1)) := by
            have := seq_app (mv := mv) (a := r.take i) (b := x :: r.drop (i + 1)) (by intro z; have := congrArg List.length z; rw [List.length_take] at this; simp only [List.length_nil] at this; omega) (by simp)
            rw [← this, ← ed, List.take_append_drop]
          have g1 : sgn T = (A ++ sgn (seqT mv (r.take i))) ++ ([59, 32] ++ (sgn (seqT mv (x :: r.drop (i + 1))) ++ R)) := by
            rw [hsg, esp, sgn_app, sgn_app, sem_sgn]
            simp only [List.append_assoc]
          have g2 : sgn T = (A ++ sgn (seqT mv (r.take i)) ++ [59, 32]) ++ (sgn (stT mv x) ++ R1) := by
            rw [g1, q3]
            simp only [List.append_assoc]
          have ec : cutS T (some ((A.length : Int) + ((seqT mv (r.take i)).length : Int))) (some ((A.length : Int) + ((seqT mv (r.take i)).length : Int) + 2)) = Str.ofString "; " := cut_lit g1 2 (by simp only [List.length_append, sgn_len]; omega) (by simp only [List.length_append, sgn_len]; omega) (by rw [show sgn (Str.ofString "; ") = [59, 32] from sem_sgn]; rfl)
          have nt : r.take i ≠ [] := by
            intro z
            have := congrArg List.length z
            rw [List.length_take] at this
            simp only [List.length_nil] at this
            omega
          have et : r.take (i + 1) = r.take i ++ [x] := by rw [List.take_succ, hx]; rfl
          have el : (seqT mv (r.take (i + 1))).length = (seqT mv (r.take i)).length + 2 + (stT mv x).length := by
            rw [et, seq_app nt (by simp), seq_one, Str.length_append, Str.length_append]
            have : semS.length = 2 := by decide +kernel
            omega
          have em : (r.map stD).take (i + 1) = (r.map stD).take i ++ [stD x] := by rw [← List.map_take, et, List.map_append, List.map_take]; rfl
          simp [and_assoc, ec]
          refine ⟨hT, fun s' => s' = [.f (.d (bkD kn mv)), .f (.d (.str T)), .f (.d (.int ((A.length : Int) + ((seqT mv (r.take (i + 1))).length : Int)))), .f (.d (.int d)), .f (.d (stD x)), .f (.l ((r.map stD).take (i + 1)))], fun s' e => ⟨r.length - (i + 1), by omega, i + 1, by omega, by omega, rfl, stD x, e⟩, kn, mv, T, _, R1, x, k, d, ?_, hB, hk, hk2, hall x (List.mem_of_getElem? hx), hd, hT, g2, q4 hR, ?_⟩
          · have ex : (A.length : Int) + ((seqT mv (r.take i)).length : Int) + 2 = ((A ++ sgn (seqT mv (r.take i)) ++ [59, 32]).length : Nat) := by simp only [List.length_append, sgn_len, List.length_cons, List.length_nil]; omega
            rw [ex]
          · have ez : (A ++ sgn (seqT mv (r.take i)) ++ [59, 32]).length = A.length + (seqT mv (r.take i)).length + 2 := by simp only [List.length_append, sgn_len, List.length_cons, List.length_nil]
            rw [ez]
            simp [and_assoc, em, el]
            omega
        · have ei : i = r.length := by omega
          subst ei
          rw [List.take_length]
          have ec : ¬ cutS T (some ((A.length : Int) + ((seqT mv r).length : Int))) (some ((A.length : Int) + ((seqT mv r).length : Int) + 2)) = Str.ofString "; " := fun z => by
            have g1 : sgn T = (A ++ sgn (seqT mv r)) ++ R := by rw [hsg, List.append_assoc]
            have e1 := cutS_at g1 2
            have e2 : ((A ++ sgn (seqT mv r)).length : Int) = (A.length : Int) + ((seqT mv r).length : Int) := by simp only [List.length_append, sgn_len]; omega
            rw [e2, show (((2 : Nat) : Int)) = 2 from rfl, z, show sgn (Str.ofString "; ") = [59, 32] from sem_sgn] at e1
            rcases hR with rfl | ⟨q, rfl⟩
            · cases e1
            · cases e1
          simp [and_assoc, ec]
          rw [rnD_map] at h
          exact ⟨hT, by simpa using h⟩
end
end Fw


namespace Fw
open PySem PySem.Spec PyProof.Rows L2 GxR Gx Gy RZ Mint
section
variable {K : PySem.W.Frag} {Ps : List Addr} {s : Sto K} {te : TE} {fe : AE K} {tl : TA} {fl : AA K}
/-! ### a star in a display -/
def aStar {K : PySem.W.Frag} (a : AE K) (l : AA K) : AA K := fun s Q => a s fun r s1 => ∃ c ds, valOf s1 r = some c ∧ itemsC c = some ds ∧ l s1 fun rs s2 => Q (ds.map RV.d ++ rs) s2
theorem rrs_app {H : Hp} {σ : L2.St} {vs2 : List V} {r2 : List (RV K)} {Gs : List (List Addr)} (e2 : RRs K H σ vs2 r2 Gs) : ∀ {us : List V} {ds : List PyData}, FzA K H us ds → RRs K H σ (us ++ vs2) (ds.map RV.d ++ r2) (ds.map (fun _ => []) ++ Gs)
  | _, _, .nil => e2
  | _, _, .cons h t => .cons ⟨h, rfl⟩ (rrs_app e2 t)
theorem items_sq {H : Hp} {v : V} {c : Cn K} {L : List Addr} {ds : List PyData} (h : Rep K H v c L) (e : itemsC c = some ds) : ∃ p us, v = .ref p ∧ (SqT K H p us ∨ SqL K H p us) ∧ FzA K H us ds := by
  unfold itemsC at e
  split at e
  · cases e
    obtain ⟨p, us, e, hS, hA⟩ := h.1.tup_inv
    exact ⟨p, us, e, .inl hS, hA⟩
  · cases e
    obtain ⟨p, us, e, hS, hA⟩ := rep_l h
    exact ⟨p, us, e, .inr hS, hA⟩
  · cases e
theorem nil_map {α : Type} {Gs : List (List Addr)} {P : List Addr → Prop} (h0 : P []) (h : ∀ G ∈ Gs, P G) (ds : List α) : ∀ G ∈ ds.map (fun _ => ([] : List Addr)) ++ Gs, P G := fun G hG => by
  rcases List.mem_append.mp hG with hG | hG
  · obtain ⟨_, _, rfl⟩ := List.mem_map.mp hG
    exact h0
  · exact h G hG
theorem nil_dj {α : Type} {Gs : List (List Addr)} (d : DjL Gs) : ∀ ds : List α, DjL (ds.map (fun _ => ([] : List Addr)) ++ Gs)
  | [] => d
  | _ :: ds => .cons (fun G _ a h => nomatch h) (nil_dj d ds)
instance snd_star [a : SndE K Ps te fe] [l : SndA K Ps tl fl] : SndA K Ps (StX.tStar K te tl) (aStar fe fl) := ⟨fun {base M P H σ s fp Q Q'} rs h q => by
  refine a.run rs h fun v H1 r1 s1 G rs1 k1 e1 n1 ⟨c, ds, ec, ei, h1⟩ => ?_
  obtain ⟨p, us, ev, hS, hA⟩ := items_sq (rs1.val' e1 ec) ei
  refine ⟨p, us, ev, hS, l.run rs1 h1 fun vs H2 r2 s2 Gs rs2 k2 e2 n2 d2 h2 => ?_⟩
  exact q (us ++ vs) H2 (ds.map RV.d ++ r2) s2 (ds.map (fun _ => []) ++ Gs) rs2 (k1.trans k2) (rrs_app e2 (FzA.keep k2 hA)) (nil_map (fun a z => nomatch z) (fun G' hG a ha => k1.non a (n2 G' hG a ha)) ds) (nil_dj d2 ds) h2⟩
@[simp] theorem x_star {a : AE K} {l : AA K} {Q : List (RV K) → Sto K → Prop} : aStar a l s Q ↔ a s fun r s1 => ∃ c ds, valOf s1 r = some c ∧ itemsC c = some ds ∧ l s1 fun rs s2 => Q (ds.map RV.d ++ rs) s2 := Iff.rfl
@[simp] theorem datas_app {ds : List PyData} {rs : List (RV K)} : datas (ds.map RV.d ++ rs) = (datas rs).map (ds ++ ·) := by
  induction ds with
  | nil => simp
  | cons d ds ih =>
    rw [List.map_cons, List.cons_append, datas_cons, ih]
    cases datas rs <;> rfl
@[simp] theorem datas_one {ds : List PyData} : datas (K := K) (ds.map RV.d) = some ds := by
  have := datas_app (K := K) (ds := ds) (rs := [])
  simpa using this
/-! ### startswith -/
def rStarts : V → List V → Hp → VK → Prop := fun x xs H Q => ∃ a b, x = .str a ∧ xs = [.str b] ∧ Q (.bl (Txt.startswith a b)) H
theorem fe_startswith {X : Cx} {o e : Expr} {to0 te0 : TE} {apos pos : Pos} (ho : PE X o to0) (he : PE X e te0) (hs : starEach [e] X.env = [(false, eval e X.env)] := by rfl) (hbase : attributeBase o "startswith" X.env (eval o X.env) = eval o X.env := by rfl) (hline : (apos.endLine == pos.line) = true := by rfl) :
    PE X (.Call (.Attribute o "startswith" apos) [e] [] pos) (tM1 rStarts to0 te0) := pe_m1 F.slot_str_startswith F.type_str_startswith mt_startswith ho he hs hbase hline
def gStarts {K : PySem.W.Frag} (a : Str) (c : Cn K) (Q : Cn K → Prop) : Prop := ∃ b, c = .d (.str b) ∧ Q (.d (.bool (Txt.startswith a b)))
instance mt_startsC : MtC K rStarts gStarts := ⟨fun {H a u c L Q Q'} hr hg q => by
  obtain ⟨b, rfl, h⟩ := hg
  exact ⟨a, b, rfl, by rw [hr.1.str_inv], q _ H (.d (.bool _)) [] .refl ⟨.bl _, rfl⟩ (fun a z => nomatch z) h⟩⟩
@[simp] theorem x_starts {z : Str} {c : Cn K} {R : Cn K → Prop} : gStarts z c R ↔ ∃ b, c = .d (.str b) ∧ R (.d (.bool (Txt.startswith z b))) := Iff.rfl
end
end Fw


namespace Fw
open PySem PySem.Spec PyProof.Rows L2 GxR Gx Gy RZ Mint
/-! ### plans as texts -/
abbrev Part := Bool × List RSt
def wdS (b : Bool) : Str := if b = true then Str.ofString "pump" else Str.ofString "run"
def partD (p : Part) : PyData := .tuple [.str (wdS p.1), .tuple (rnD p.2)]
def planD (pl : List Part) : PyData := .tuple (pl.map partD)
structure PlOk (nm : Nat) (k : Nat) (pl : List Part) : Prop where
  n : pl.length ≤ 100
  g : ∀ p ∈ pl, GRn nm tt3 k p.2 ∧ p.2 ≠ []
def partT (mv : List Mv) (p : Part) : Str := wdS p.1 ++ sp1 ++ rnT mv p.2
abbrev gtS : Str := Str.ofString " > "
def planT (mv : List Mv) (pl : List Part) : Str := if pl = [] then Str.ofString "nothing" else Txt.join gtS (pl.map (partT mv))
theorem wd_len (b : Bool) : (wdS b).length ≤ 4 := by cases b <;> decide +kernel
theorem rn_len2 {kn : List Str} {mv : List Mv} (h : GoodBk kn mv) {r : List RSt} (hr : GRn mv.length tt3 2 r) : (rnT mv r).length ≤ 2900 := by
  have hb : ∀ x ∈ stTs mv r, x.length ≤ 60 * 4 ^ 2 := fun x hx => by
    rw [stTs_map] at hx
    obtain ⟨s, hs, rfl⟩ := List.mem_map.mp hx
    exact st_len h 2 s (hr.all s hs)
  have h6 := jn_len hb (by rw [stTs_map, List.length_map]; exact hr.three)
  have := h6.2
  show (jn (stTs mv r)).length ≤ _
  omega
theorem part_len {kn : List Str} {mv : List Mv} (h : GoodBk kn mv) {pl : List Part} (hp : PlOk mv.length 2 pl) : ∀ p ∈ pl, (partT mv p).length ≤ 3000 := fun p hpm => by
  have := rn_len2 h (hp.g p hpm).1
  have := wd_len p.1
  have a : sp1.length = 1 := by decide +kernel
  unfold partT
  rw [Str.length_append, Str.length_append]
  omega
theorem planT_join {mv : List Mv} {pl : List Part} (h : pl ≠ []) : Txt.join gtS (pl.map (partT mv)) = planT mv pl := by
  unfold planT
  rw [if_neg h]
theorem plan_bound {kn : List Str} {mv : List Mv} (h : GoodBk kn mv) {pl : List Part} (hp : PlOk mv.length 2 pl) (hn : pl.length ≤ 5) : ((pl.map (partT mv)).map (·.length)).sum + (pl.map (partT mv)).length * gtS.length ≤ 16777216 ∧ (planT mv pl).length ≤ 16000 := by
  have h1 := sum_le (f := (·.length)) (b := 3000) (pl.map (partT mv)) fun x hx => by
    obtain ⟨p, hpm, rfl⟩ := List.mem_map.mp hx
    exact part_len h hp p hpm
  have h2 := join_len gtS (pl.map (partT mv))
  have a : gtS.length = 3 := by decide +kernel
  rw [List.length_map] at h1 h2
  rw [a] at h2 ⊢
  rw [List.length_map]
  refine ⟨by omega, ?_⟩
  unfold planT
  split
  · have : (Str.ofString "nothing").length = 7 := by decide +kernel
    omega
  · omega
def g_print_plan {K : PySem.W.Frag} : GF K := fun cs Q => ∃ (kn : List Str) (mv : List Mv) (pl : List Part), cs = [.d (bkD kn mv), .d (planD pl)] ∧ GoodBk kn mv ∧ PlOk mv.length 2 pl ∧ pl.length ≤ 5 ∧ Q (.d (.str (planT mv pl))) cs
def lineN (w : Str) (ns : List Nat) : Str := Txt.join sp1 (w :: ns.map numS)
def nsD (ns : List Nat) : PyData := .tuple (ns.map fun n => .int (n : Nat))
def g_print_numbers {K : PySem.W.Frag} : GF K := fun cs Q => ∃ (w : Str) (ns : List Nat), cs = [.d (.str w), .d (nsD ns)] ∧ w.length ≤ 20 ∧ ns.length ≤ 20 ∧ (∀ n ∈ ns, n ≤ 10 ^ 30) ∧ Q (.d (.str (lineN w ns))) cs
section
variable {P : Program} {w : World} {K : PySem.W.Frag} {mg : Str → Option Value} {base : Heap} {f T : Addr} {fd : FuncData} {Ps : List Addr}
abbrev sprint_plan : Stmt := top 34
theorem scprint_plan : FnScope ["book", "plan", "word", "run"] ["book", "plan"] (defScope sprint_plan) := ⟨rfl, rfl, rfl, by decide +kernel, rfl, by decide +kernel, by decide +kernel⟩
theorem ok_print_plan (F : Fun K "print_plan" "print_plan" sprint_plan f fd) (G : Glb mg)  (D_print_run : Def P w K mg base "print_run" (13) ["book", "run"] (spA K Ps (g_print_run 5))) : FnOk P w K mg base CX0 (14) f fd ["book", "plan"] (spA K Ps g_print_plan) := by
  refine ok_fn F scprint_plan (fun cs Q' h => ?_) (by decide) fun cdv A outer s H E hr => ?_
  · obtain ⟨kn, mv, pl, rfl, hB, hp, hn, h⟩ := h
    rfl
  have nd := scprint_plan.nd
  refine ⟨_, ?fs, (pss_one (ps_ret (pe_ifExp (ft_truth (pv 1) (by intro _; rfl)) (fe_join pe_str (pe_lc (own := [("word", 2), ("run", 3)]) (g := (L2.gTup K 2 (gCons (gName 2) (gCons (gName 3) gNil)))) (te := (tJoined [(tFmt (tVar 2)), (tC (.str (Str.ofString " "))), (tFmt (tCall (spA K Ps (g_print_run 5)) [] E0 (tCons (tVar 0) (tCons (tVar 3) tNil))))])) (tt := tYes) rfl nd (pi_tup (pv 1)) (blkOk_by (own := [("word", 2), ("run", 3)]) (N := ["book", "plan", "word", "run"]) (sc := defScope sprint_plan) (by decide +kernel)) (fun _ _ _ _ _ => (pg_tup (n := 2) (by rfl) (pgs_cons (pg_name (i := 2) nd rfl (Or.inl rfl)) (pgs_cons (pg_name (i := 3) nd rfl (Or.inl rfl)) pgs_nil)))) (fun _ _ _ _ _ => pts_nil) (fun _ _ _ _ _ => (fe_joined (.cons (pe_fmt (pv 2)) (.cons pe_str (.cons (pe_fmt (pe_c D_print_run (hr.mono (by decide)) (pa_cons (pv 0) (pa_cons (pv 3) pa_nil)))) .nil))))))) pe_str))), ?inst, fun cs Q' hg => ?body⟩
  case inst =>
    dsimp only [cxOf, Cx.nox, Cx.wish, List.map]
    infer_instance
  case body =>
    obtain ⟨kn, mv, pl, rfl, hB, hp, hn, h⟩ := hg
    have hb := plan_bound hB hp hn
    simp [and_assoc, planD]
    cases pl with
    | nil => exact .inl ⟨rfl, h⟩
    | cons p0 r0 =>
      obtain ⟨pl, er⟩ : ∃ pl, pl = p0 :: r0 := ⟨_, rfl⟩
      have hne : pl ≠ [] := by rw [er]; simp
      rw [← er] at h hp hn hb ⊢
      refine .inr ⟨hne, ?_⟩
      refine compF_map partD (fun p => PyData.str (partT mv p)) pl trivial (by omega) (fun p hpm T hT => ?_) ?_
      · have z1 : 10000000 ≤ sizeLine := by decide
        have b0 : Str.empty.length = 0 := by decide +kernel
        have a : (Str.ofString " ").length = 1 := by decide +kernel
        have l1 := wd_len p.1
        have l2 := (rn_len hB (hp.g p hpm).1 (by decide)).1.2
        simp [and_assoc, partD, Str.length_append, b0]
        refine ⟨by omega, by omega, kn, mv, p.2, 2, rfl, hB, by decide, by decide, (hp.g p hpm).1, ?_⟩
        simp [and_assoc, Str.length_append, b0]
        refine ⟨by omega, by omega, ?_⟩
        rw [empty_app]
        exact hT _ rfl rfl
      · have e1 : pl.map (fun p => PyData.str (partT mv p)) = (pl.map (partT mv)).map PyData.str := by rw [List.map_map]; rfl
        rw [e1]
        obtain ⟨L, eL⟩ : ∃ L, L = pl.map (partT mv) := ⟨_, rfl⟩
        rw [← planT_join hne, ← eL] at h
        rw [← eL] at hb ⊢
        simp [and_assoc]
        exact ⟨hb.1, h⟩
abbrev sprint_numbers : Stmt := top 36
theorem scprint_numbers : FnScope ["word", "numbers", "number"] ["word", "numbers"] (defScope sprint_numbers) := ⟨rfl, rfl, rfl, by decide +kernel, rfl, by decide +kernel, by decide +kernel⟩
theorem ok_print_numbers (F : Fun K "print_numbers" "print_numbers" sprint_numbers f fd) (G : Glb mg)  (D_print_number : Def P w K mg base "print_number" (1) ["number"] (spA K Ps g_print_number)) : FnOk P w K mg base CX0 (2) f fd ["word", "numbers"] (spA K Ps g_print_numbers) := by
  refine ok_fn F scprint_numbers (fun cs Q' h => ?_) (by decide) fun cdv A outer s H E hr => ?_
  · obtain ⟨w, ns, rfl, hw, hn, hb, h⟩ := h
    rfl
  have nd := scprint_numbers.nd
  refine ⟨_, ?fs, (pss_one (ps_ret (fe_join pe_str (pe_lst (pa_cons (pv 0) (StX.pa_star (pe_lc (own := [("number", 2)]) (g := (gName 2)) (te := (tCall (spA K Ps g_print_number) [] E0 (tCons (tVar 2) tNil))) (tt := tYes) rfl nd (pi_tup (pv 1)) (blkOk_by (own := [("number", 2)]) (N := ["word", "numbers", "number"]) (sc := defScope sprint_numbers) (by decide +kernel)) (fun _ _ _ _ _ => (pg_name (i := 2) nd rfl (Or.inl rfl))) (fun _ _ _ _ _ => pts_nil) (fun _ _ _ _ _ => (pe_c D_print_number (hr.mono (by decide)) (pa_cons (pv 2) pa_nil)))) pa_nil)))))), ?inst, fun cs Q' hg => ?body⟩
  case inst =>
    dsimp only [cxOf, Cx.nox, Cx.wish, List.map]
    infer_instance
  case body =>
    obtain ⟨w, ns, rfl, hw, hn, hb, h⟩ := hg
    simp [and_assoc, nsD]
    refine compF_map (fun n : Nat => PyData.int (n : Int)) (fun n => PyData.str (numS n)) ns trivial (by omega) (fun n hnm T hT => ?_) ?_
    · simp [and_assoc]
      refine x_pnum ⟨hb n hnm, ?_⟩
      simp [and_assoc]
      exact hT _ rfl rfl
    · have e1 : ns.map (fun n => PyData.str (numS n)) = (ns.map numS).map PyData.str := by rw [List.map_map]; rfl
      have e2 : PyData.str w :: (ns.map numS).map PyData.str = (w :: ns.map numS).map PyData.str := rfl
      have h1 := sum_le (f := (·.length)) (b := 31) (w :: ns.map numS) fun x hx => by
        rcases List.mem_cons.mp hx with rfl | hx
        · omega
        · obtain ⟨n, hn', rfl⟩ := List.mem_map.mp hx
          exact numS_len (hb n hn')
      have a : sp1.length = 1 := by decide +kernel
      rw [List.length_cons, List.length_map] at h1
      refine ⟨by rw [List.length_map]; omega, w :: ns.map numS, ?_, ?_, h⟩
      · rw [e1, e2, strsOf_map]
      · rw [List.length_cons, List.length_map]
        show _ + _ * sp1.length ≤ _
        rw [a]
        omega
def byS : Str := Str.ofString " by "
inductive Ans
  | most (n : Nat) (r : List RSt)
  | fin (pl : List Part)
def ansD : Ans → PyData
  | .most n r => .tuple [.str "most", .int (n : Nat), .tuple (rnD r)]
  | .fin pl => .tuple [.str "end", planD pl]
def AnOk (nm : Nat) : Ans → Prop
  | .most n r => n ≤ 10 ^ 30 ∧ GRn nm tt3 2 r
  | .fin pl => PlOk nm 2 pl ∧ pl.length ≤ 5
def ansT (mv : List Mv) (k : Str) : Ans → Str
  | .most n r => Str.ofString "most " ++ k ++ sp1 ++ numS n ++ byS ++ rnT mv r
  | .fin pl => Str.ofString "endless " ++ k ++ byS ++ planT mv pl
def g_print_answer {K : PySem.W.Frag} : GF K := fun cs Q => ∃ (kn : List Str) (mv : List Mv) (k : Str) (a : Ans), cs = [.d (bkD kn mv), .d (.str k), .d (ansD a)] ∧ GoodBk kn mv ∧ k.length ≤ 12 ∧ AnOk mv.length a ∧ Q (.d (.str (ansT mv k a))) cs
abbrev sprint_answer : Stmt := top 37
theorem scprint_answer : FnScope ["book", "kind", "answer"] ["book", "kind", "answer"] (defScope sprint_answer) := ⟨rfl, rfl, rfl, by decide +kernel, rfl, by decide +kernel, by decide +kernel⟩
theorem ok_print_answer (F : Fun K "print_answer" "print_answer" sprint_answer f fd) (G : Glb mg) (hBy : ∃ t, mg "BY" = some (.str byS t)) (D_print_plan : Def P w K mg base "print_plan" (14) ["book", "plan"] (spA K Ps g_print_plan)) (D_print_number : Def P w K mg base "print_number" (1) ["number"] (spA K Ps g_print_number)) (D_print_run : Def P w K mg base "print_run" (13) ["book", "run"] (spA K Ps (g_print_run 5))) : FnOk P w K mg base CX0 (15) f fd ["book", "kind", "answer"] (spA K Ps g_print_answer) := by
  obtain ⟨t1, cBy⟩ := hBy
  refine ok_fn F scprint_answer (fun cs Q' h => ?_) (by decide) fun cdv A outer s H E hr => ?_
  · obtain ⟨kn, mv, k, a, rfl, hB, hk, ha, h⟩ := h
    rfl
  have nd := scprint_answer.nd
  refine ⟨_, ?fs, (pss_cons (ps_if (pt_cmpR op_eq (pe_ix ix_tup (pv 2) pe_int (fun _ _ => rfl)) pe_str (nomark _)) (pss_one (ps_ret (fe_joined (.cons pe_str (.cons (pe_fmt (pv 1)) (.cons (pe_fmt (pe_gS cBy)) (.cons (pe_fmt (pe_c D_print_plan (hr.mono (by decide)) (pa_cons (pv 0) (pa_cons (pe_ix ix_tup (pv 2) pe_int (fun _ _ => rfl)) pa_nil)))) .nil))))))) pss_nil)
    (pss_one (ps_ret (fe_joined (.cons pe_str (.cons (pe_fmt (pv 1)) (.cons pe_str (.cons (pe_fmt (pe_c D_print_number (hr.mono (by decide)) (pa_cons (pe_ix ix_tup (pv 2) pe_int (fun _ _ => rfl)) pa_nil))) (.cons (pe_fmt (pe_gS cBy)) (.cons (pe_fmt (pe_c D_print_run (hr.mono (by decide)) (pa_cons (pv 0) (pa_cons (pe_ix ix_tup (pv 2) pe_int (fun _ _ => rfl)) pa_nil)))) .nil)))))))))), ?inst, fun cs Q' hg => ?body⟩
  case inst =>
    dsimp only [cxOf, Cx.nox, Cx.wish, List.map]
    infer_instance
  case body =>
    obtain ⟨kn, mv, k, a, rfl, hB, hk, ha, h⟩ := hg
    have z1 : 16777216 ≤ sizeLine := by decide
    have b0 : Str.empty.length = 0 := by decide +kernel
    have b1 : byS.length = 4 := by decide +kernel
    have b2 : (Str.ofString "most ").length = 5 := by decide +kernel
    have b3 : (Str.ofString "endless ").length = 8 := by decide +kernel
    have b4 : (Str.ofString " ").length = 1 := by decide +kernel
    cases a with
    | most n r =>
      have hne : ¬ Str.ofString "most" = Str.ofString "end" := by decide +kernel
      have l1 := (rn_len hB ha.2 (by decide)).1.2
      have l2 := numS_len ha.1
      simp [and_assoc, ansD, hne, Str.length_append, b0, b1, b2, b3, b4]
      refine ⟨by omega, by omega, by omega, by omega, x_pnum ⟨ha.1, ?_⟩⟩
      simp [and_assoc]
      refine ⟨by omega, by omega, by omega, by omega, kn, mv, r, 2, rfl, hB, by decide, by decide, ha.2, ?_⟩
      simp [and_assoc]
      rw [empty_app]
      exact ⟨by omega, by omega, h⟩
    | fin pl =>
      have l1 := (plan_bound hB ha.1 ha.2).2
      simp [and_assoc, ansD, Str.length_append, b0, b1, b2, b3, b4]
      refine ⟨by omega, by omega, by omega, by omega, by omega, kn, mv, pl, rfl, hB, ha.1, ha.2, ?_⟩
      simp [and_assoc]
      rw [empty_app]
      exact ⟨by omega, by omega, h⟩
end
end Fw


namespace Fw
open PySem PySem.Spec PyProof.Rows L2 GxR Gx Gy RZ Mint
/-! ### read_run -/
abbrev ntS : Str := Str.ofString "nothing"
theorem nt_sgn : sgn ntS = [110, 111, 116, 104, 105, 110, 103] := by decide +kernel
theorem seq_ne {kn : List Str} {mv : List Mv} (h : GoodBk kn mv) {k : Nat} {r : List RSt} (hr : GRn mv.length tt3 k r) (hne : r ≠ []) : seqT mv r ≠ ntS := fun z => by
  cases r with
  | nil => exact hne rfl
  | cons s r =>
    cases r with
    | cons x r =>
      have e := seq_app (mv := mv) (a := [s]) (b := x :: r) (by simp) (by simp)
      have : (59 : Nat) ∈ sgn (seqT mv (s :: x :: r)) := by
        rw [show s :: x :: r = [s] ++ x :: r from rfl, e, sgn_app, sgn_app, sem_sgn]
        simp
      rw [z] at this
      exact absurd this (by decide +kernel)
    | nil =>
      rw [seq_one] at z
      have hg := hr.all s List.mem_cons_self
      cases s with
      | rep c q =>
        have : (32 : Nat) ∈ sgn (stT mv (.rep c q)) := by
          unfold stT
          rw [sgn_app, sgn_app, sgn_app, show sgn (Str.ofString " x (") = [32, 120, 32, 40] by decide +kernel]
          simp
        rw [z] at this
        exact absurd this (by decide +kernel)
      | mv j =>
        have hj : j < mv.length := by
          cases k with
          | zero => obtain ⟨m, e, h⟩ := hg; cases e; exact h
          | succ k =>
            rcases hg with ⟨m, e, h⟩ | ⟨_, _, e, _⟩
            · cases e; exact h
            · cases e
        obtain ⟨m, e1, e2, _⟩ := nm_ok h hj
        obtain ⟨c0, cs, e, _, _, _, h5⟩ := (h.moves j m e1).name
        have e3 : m.name = ntS := by rw [← z]; exact e2.symm
        have e4 : sgn ntS = c0 :: (cs ++ [97 + (6 + j)]) := by rw [← e3]; exact e
        have e5 := congrArg List.length e4
        rw [nt_sgn] at e5
        simp only [List.length_cons, List.length_append, List.length_nil] at e5
        omega
def g_read_run {K : PySem.W.Frag} (N : Nat) : GF K := fun cs Q => ∃ (kn : List Str) (mv : List Mv) (r : List RSt) (k : Nat), cs = [.d (bkD kn mv), .d (.str (rnT mv r))] ∧ GoodBk kn mv ∧ k < N ∧ k ≤ 6 ∧ GRn mv.length tt3 k r ∧ Q (.d (.tuple (rnD r))) cs
section
variable {P : Program} {w : World} {K : PySem.W.Frag} {mg : Str → Option Value} {base : Heap} {f T : Addr} {fd : FuncData} {Ps : List Addr}
abbrev sread_run : Stmt := top 26
theorem scread_run : FnScope ["book", "text", "run", "at"] ["book", "text"] (defScope sread_run) := ⟨rfl, rfl, rfl, by decide +kernel, rfl, by decide +kernel, by decide +kernel⟩
theorem ok_read_run (F : Fun K "read_run" "read_run" sread_run f fd) (G : Glb mg) (C : Mint.Cst K mg) (D_read_steps : Def P w K mg base "read_steps" (13) ["book", "text", "at", "depth"] (spA K Ps (g_read_steps 5))) : FnOk P w K mg base CX0 (14) f fd ["book", "text"] (spA K Ps (g_read_run 5)) := by
  obtain ⟨t1, cM⟩ := C.mostDepth
  refine ok_fn F scread_run (fun cs Q' h => ?_) (by decide) fun cdv A outer s H E hr => ?_
  · obtain ⟨kn, mv, r, k, rfl, hB, hk, hk2, hr2, h⟩ := h
    rfl
  have nd := scread_run.nd
  refine ⟨_, ?fs, (pss_cons (ps_if (pt_cmpR op_eq (pv 1) pe_str (nomark _)) (pss_one (ps_ret (pe_tup pa_nil))) pss_nil)
    (pss_cons (ps_asg (pe_c D_read_steps (hr.mono (by decide)) (pa_cons (pv 0) (pa_cons (pv 1) (pa_cons pe_int (pa_cons (pe_gI cM) pa_nil))))) (pg_tup (n := 2) (by rfl) (pgs_cons (pg_name (i := 2) nd rfl (Or.inl rfl)) (pgs_cons (pg_name (i := 3) nd rfl (Or.inl rfl)) pgs_nil))))
    (pss_cons (ps_if (pt_cmpR op_ne (pv 3) (pe_callB cr_lenS rfl G.len PySem.boot_len (pa_cons (pv 1) pa_nil)) (nomark _)) (pss_one L2.ps_never) pss_nil)
    (pss_one (ps_ret (pv 2)))))), ?inst, fun cs Q' hg => ?body⟩
  case inst =>
    dsimp only [cxOf, Cx.nox, Cx.wish, List.map]
    infer_instance
  case body =>
    obtain ⟨kn, mv, r, k, rfl, hB, hk, hk2, hr2, h⟩ := hg
    have z1 : 10000000 ≤ sizeLine := by decide
    have l1 := (rn_len hB hr2 hk2).1.2
    cases r with
    | nil =>
      have e : rnT mv [] = Str.ofString "nothing" := rfl
      simp [and_assoc, e]
      exact h
    | cons s0 r0 =>
      obtain ⟨r, er⟩ : ∃ r, r = s0 :: r0 := ⟨_, rfl⟩
      have hne : r ≠ [] := by rw [er]; simp
      rw [← er] at h hr2 l1 ⊢
      have e2 := seq_ne hB hr2 hne
      rw [rnT_seq hne] at h l1 ⊢
      simp [and_assoc, e2]
      refine ⟨kn, mv, seqT mv r, [], [], r, k, 30, rfl, hB, hk, hk2, hr2, hne, by omega, by omega, by simp, .inl rfl, ?_⟩
      simp [and_assoc]
      exact ⟨by omega, h⟩
theorem lns_false {kn : List Str} {mv : List Mv} {ls : List Ln} (h : LnsOk kn false mv ls) : ls = exLns kn mv := by
  refine List.ext_getElem? fun i => ?_
  unfold exLns
  rw [List.getElem?_map]
  cases e1 : mv[i]? with
  | none =>
    rw [List.getElem?_eq_none (by rw [h.n]; exact List.getElem?_eq_none_iff.mp e1)]
    rfl
  | some m =>
    have hi := (List.getElem?_eq_some_iff.mp e1).1
    have e2 : ls[i]? = some (ls[i]'(by rw [h.n]; exact hi)) := List.getElem?_eq_getElem _
    rw [e2, (h.ok i m _ e1 e2).e rfl]
    rfl
theorem lay_ints (es : List Int) : (iD es).canLay0 = true ∧ (iD es).depth ≤ 60 := by
  constructor
  · simp only [iD, PyData.canLay0]
    exact lays_ofF fun x hx => by
      obtain ⟨e, _, rfl⟩ := List.mem_map.mp hx
      simp [PyData.canLay0]
  · simp only [iD, PyData.depth]
    have := deeps_ofF (n := 0) (ds := es.map PyData.int) fun x hx => by
      obtain ⟨e, _, rfl⟩ := List.mem_map.mp hx
      simp [PyData.depth]
    omega
theorem lay_name {x : Str} (h : KindOk x) : (PyData.str x).canLay0 = true := by
  simp only [PyData.canLay0]
  exact strOk_of fun c hc => by have := h.ok c hc; omega
theorem lay_bk {kn : List Str} {mv : List Mv} (h : GoodBk kn mv) : (bkD kn mv).canLay0 = true ∧ (bkD kn mv).depth ≤ 60 := by
  have k1 : (PyData.tuple (kn.map PyData.str)).canLay0 = true := by
    simp only [PyData.canLay0]
    exact lays_ofF fun x hx => by
      obtain ⟨e, he, rfl⟩ := List.mem_map.mp hx
      exact lay_name (h.kindOk e he)
  have k2 : (PyData.tuple (mv.map moveD)).canLay0 = true := by
    simp only [PyData.canLay0]
    exact lays_ofF fun x hx => by
      obtain ⟨m, hm, rfl⟩ := List.mem_map.mp hx
      obtain ⟨j, hj⟩ := List.mem_iff_getElem?.mp hm
      simp only [moveD, PyData.canLay0, PyData.canLayAll0]
      have a := lay_name (h.nameOk hj)
      simp only [PyData.canLay0] at a
      have b1 := (lay_ints m.take).1
      have b2 := (lay_ints m.low).1
      have b3 := (lay_ints m.high).1
      simp only [PyData.canLay0] at b1 b2 b3
      simp [a, b1, b2, b3]
  have d1 : (PyData.tuple (kn.map PyData.str)).depth ≤ 5 := by
    simp only [PyData.depth]
    have := deeps_ofF (n := 0) (ds := kn.map PyData.str) fun x hx => by
      obtain ⟨e, _, rfl⟩ := List.mem_map.mp hx
      simp [PyData.depth]
    omega
  have di : ∀ es, (iD es).depth ≤ 1 := fun es => by
    simp only [iD, PyData.depth]
    have := deeps_ofF (n := 0) (ds := es.map PyData.int) fun x hx => by
      obtain ⟨e, _, rfl⟩ := List.mem_map.mp hx
      simp [PyData.depth]
    omega
  have d2 : (PyData.tuple (mv.map moveD)).depth ≤ 5 := by
    simp only [PyData.depth]
    have := deeps_ofF (n := 2) (ds := mv.map moveD) fun x hx => by
      obtain ⟨m, _, rfl⟩ := List.mem_map.mp hx
      have b1 := di m.take
      have b2 := di m.low
      have b3 := di m.high
      simp only [moveD, PyData.depth, PyData.depthAll] at b1 b2 b3 ⊢
      omega
    omega
  constructor
  · simp only [bookD, PyData.canLay0, PyData.canLayAll0] at k1 k2 ⊢
    simp [k1, k2]
  · simp only [bookD, PyData.depth, PyData.depthAll] at d1 d2 ⊢
    omega
theorem shaped_of {d : PyData} (h : d.canLay0 = true ∧ d.depth ≤ 60) : SeqAt.shaped d = true := by
  unfold SeqAt.shaped
  rw [h.1, decide_eq_true (by have := h.2; omega)]
  rfl
theorem x_lbook {K : PySem.W.Frag} {m : Int} {Q : Cn K → List (Cn K) → Prop} (h : 0 ≤ m ∧ m ≤ 1000 ∧ ∀ kn mv, GoodBk kn mv → Q (.d (bkD kn mv)) [.x (drawsO K), .d (.int m)]) : g__law_book [.x (drawsO K), .d (.int m)] Q := ⟨m, rfl, h⟩
theorem x_pbook {K : PySem.W.Frag} {kn : List Str} {mv : List Mv} {Q : Cn K → List (Cn K) → Prop} (hB : GoodBk kn mv) (h : Q (.d (.str (bookT kn mv (exLns kn mv)))) [.d (bkD kn mv)]) : g_print_book [.d (bkD kn mv)] Q := ⟨kn, mv, rfl, hB, h⟩
theorem x_lbt {K : PySem.W.Frag} {kn : List Str} {mv : List Mv} {b : Bool} {Q : Cn K → List (Cn K) → Prop} (hB : GoodBk kn mv) (h : ∀ ls, LnsOk kn b mv ls → Q (.d (.str (bookT kn mv ls))) [.x (drawsO K), .d (bkD kn mv), .d (.bool b)]) : g__law_book_text [.x (drawsO K), .d (bkD kn mv), .d (.bool b)] Q := ⟨kn, mv, b, rfl, hB, h⟩
theorem x_rbook {K : PySem.W.Frag} {kn : List Str} {mv : List Mv} {ls : List Ln} {b : Bool} {Q : Cn K → List (Cn K) → Prop} (hB : GoodBk kn mv) (hl : LnsOk kn b mv ls) (h : Q (.d (bkD kn mv)) [.d (.str (bookT kn mv ls))]) : g_read_book [.d (.str (bookT kn mv ls))] Q :=
  ⟨kn, mv, ls, rfl, hB, ⟨hl.n, fun j m p h1 h2 => let k := hl.ok j m p h1 h2; ⟨k.t, k.g, fun z => nomatch z⟩⟩, h⟩
theorem x_lstk {K : PySem.W.Frag} {kn : List Str} {es : List Int} {b : Bool} {Q : Cn K → List (Cn K) → Prop} (h : es.length = kn.length ∧ kn.length ≤ 999 ∧ (∀ k ∈ kn, KindOk k) ∧ (∀ e ∈ es, okE e) ∧
  ∀ its, its.Perm (itsOf kn (stW es)) → (b = false → its = itsOf kn (stW es)) → Q (.d (.str (textOf its))) [.x (drawsO K), .d (.tuple (kn.map PyData.str)), .d (iD es), .d (.bool b)]) : g__law_stock_text [.x (drawsO K), .d (.tuple (kn.map PyData.str)), .d (iD es), .d (.bool b)] Q := ⟨kn, es, b, rfl, h⟩
theorem x_rst {K : PySem.W.Frag} {kn : List Str} {mv : List Mv} {es : List Int} {its : Its} {Q : Cn K → List (Cn K) → Prop} (h : GoodBk kn mv ∧ es.length = kn.length ∧ (∀ e ∈ es, 0 ≤ e ∧ e ≤ 10 ^ 30) ∧ its.Perm (itsOf kn (stW es)) ∧ Q (.d (iD es)) [.d (bkD kn mv), .d (.str (textOf its))]) : g_read_stock [.d (bkD kn mv), .d (.str (textOf its))] Q := ⟨kn, mv, es, its, rfl, h⟩
theorem x_rex {K : PySem.W.Frag} {kn : List Str} {mv : List Mv} {es : List Int} {its : Its} {Q : Cn K → List (Cn K) → Prop} (h : GoodBk kn mv ∧ es.length = kn.length ∧ (∀ e ∈ es, okE e) ∧ its.Perm (itsOf kn (stW es)) ∧ Q (.d (iD es)) [.d (bkD kn mv), .d (.str (textOf its))]) : g_read_extended [.d (bkD kn mv), .d (.str (textOf its))] Q := ⟨kn, mv, es, its, rfl, h⟩
def g_law {K : PySem.W.Frag} : GF K := fun cs Q => ∃ zs : List Int, cs = [.x (scriptO K zs)] ∧ zs.length ≤ 63 ∧ Q (.d (.bool true)) cs
end
end Fw


namespace Fw
open PySem PySem.Spec PyProof.Rows L2 GxR Gx Gy RZ Mint
/-! ### verdicts as texts -/
structure Vd where
  pr : List Nat
  lp : List Nat
  rp : List (List Int × List Part)
  an : List Ans
def topD (t : List Int × List Part) : PyData := .tuple [iD t.1, planD t.2]
def vdD (v : Vd) : PyData := .tuple [.tuple [nsD v.pr, nsD v.lp], .tuple (v.rp.map topD), .tuple (v.an.map ansD)]
def topS : Str := Str.ofString "top "
def topT (kn : List Str) (mv : List Mv) (t : List Int × List Part) : Str := topS ++ textOf (itsOf kn (stW t.1)) ++ byS ++ planT mv t.2
def vdLines (kn : List Str) (mv : List Mv) (v : Vd) : List Str := lineN (Str.ofString "prices") v.pr :: lineN (Str.ofString "loop") v.lp :: (v.rp.map (topT kn mv) ++ (kn.zip v.an).map fun p => ansT mv p.1 p.2)
structure VdOk (kn : List Str) (mv : List Mv) (v : Vd) : Prop where
  pr : v.pr.length = kn.length
  prb : ∀ n ∈ v.pr, n ≤ 10 ^ 30
  lp : v.lp.length = mv.length
  lpb : ∀ n ∈ v.lp, n ≤ 10 ^ 30
  rp : v.rp.length ≤ 3
  tp : ∀ t ∈ v.rp, t.1.length = kn.length ∧ (∀ e ∈ t.1, okE e) ∧ PlOk mv.length 2 t.2 ∧ t.2.length ≤ 5
  an : v.an.length = kn.length
  ao : ∀ a ∈ v.an, AnOk mv.length a
def vdT (kn : List Str) (mv : List Mv) (v : Vd) : Str := Txt.join (Str.ofString "\n") (vdLines kn mv v)
def g_print_verdict {K : PySem.W.Frag} : GF K := fun cs Q => ∃ (kn : List Str) (mv : List Mv) (v : Vd), cs = [.d (bkD kn mv), .d (vdD v)] ∧ GoodBk kn mv ∧ VdOk kn mv v ∧ Q (.d (.str (vdT kn mv v))) cs
theorem lineN_len {w : Str} {ns : List Nat} (hw : w.length ≤ 20) (hn : ns.length ≤ 20) (hb : ∀ n ∈ ns, n ≤ 10 ^ 30) : (lineN w ns).length ≤ 1000 := by
  have h1 := sum_le (f := (·.length)) (b := 31) (w :: ns.map numS) fun x hx => by
    rcases List.mem_cons.mp hx with rfl | hx
    · omega
    · obtain ⟨n, hn', rfl⟩ := List.mem_map.mp hx
      exact numS_len (hb n hn')
  have h2 := join_len sp1 (w :: ns.map numS)
  have a : sp1.length = 1 := by decide +kernel
  rw [List.length_cons, List.length_map] at h1 h2
  rw [a] at h2
  show (Txt.join sp1 (w :: ns.map numS)).length ≤ _
  omega
theorem top_len {kn : List Str} {mv : List Mv} {v : Vd} (hB : GoodBk kn mv) (h : VdOk kn mv v) : ∀ t ∈ v.rp, ((textOf (itsOf kn (stW t.1))).length ≤ 600 ∧ (planT mv t.2).length ≤ 16000) ∧ (topT kn mv t).length ≤ 17000 := fun t ht => by
  obtain ⟨h1, h2, h3, h4⟩ := h.tp t ht
  have h6 := hB.six
  have l1 := text_len (n := 6) (itsOk_of (by omega) hB.kindOk (stW_ok h2)) (Nat.le_trans (its_len ..) h6)
  have l2 := (plan_bound hB h3 h4).2
  have a : topS.length = 4 := by decide +kernel
  have b : byS.length = 4 := by decide +kernel
  refine ⟨⟨by omega, l2⟩, ?_⟩
  unfold topT
  rw [Str.length_append, Str.length_append, Str.length_append]
  omega
theorem ans_len {kn : List Str} {mv : List Mv} (hB : GoodBk kn mv) {k : Str} (hk : k.length ≤ 12) {a : Ans} (ha : AnOk mv.length a) : (ansT mv k a).length ≤ 17000 := by
  have b1 : byS.length = 4 := by decide +kernel
  have b2 : (Str.ofString "most ").length = 5 := by decide +kernel
  have b3 : (Str.ofString "endless ").length = 8 := by decide +kernel
  have b4 : sp1.length = 1 := by decide +kernel
  cases a with
  | most n r =>
    have := rn_len2 hB ha.2
    have := numS_len ha.1
    unfold ansT
    simp only [Str.length_append]
    omega
  | fin pl =>
    have := (plan_bound hB ha.1 ha.2).2
    unfold ansT
    simp only [Str.length_append]
    omega
theorem vd_lines {kn : List Str} {mv : List Mv} {v : Vd} (hB : GoodBk kn mv) (h : VdOk kn mv v) : ((vdLines kn mv v).length ≤ 11 ∧ ∀ x ∈ vdLines kn mv v, x.length ≤ 17000) ∧ ((vdLines kn mv v).map (·.length)).sum + (vdLines kn mv v).length * (Str.ofString "\n").length ≤ 16777216 := by
  have h6 := hB.six
  have h8 := hB.eight
  have h3 := h.rp
  have hp := h.pr
  have hlp := h.lp
  have l1 := lineN_len (w := Str.ofString "prices") (by decide +kernel) (by omega) h.prb
  have l2 := lineN_len (w := Str.ofString "loop") (by decide +kernel) (by omega) h.lpb
  have hn : (vdLines kn mv v).length ≤ 11 := by
    unfold vdLines
    rw [List.length_cons, List.length_cons, List.length_append, List.length_map, List.length_map, List.length_zip]
    omega
  have hl : ∀ x ∈ vdLines kn mv v, x.length ≤ 17000 := fun x hx => by
    rcases List.mem_cons.mp hx with rfl | hx
    · omega
    rcases List.mem_cons.mp hx with rfl | hx
    · omega
    rcases List.mem_append.mp hx with hx | hx
    · obtain ⟨t, ht, rfl⟩ := List.mem_map.mp hx
      exact (top_len hB h t ht).2
    · obtain ⟨⟨k, a⟩, hp, rfl⟩ := List.mem_map.mp hx
      have hz := List.of_mem_zip hp
      exact ans_len hB (hB.kindOk k hz.1).len (h.ao a hz.2)
  refine ⟨⟨hn, hl⟩, ?_⟩
  have h1 := sum_le (f := (·.length)) _ hl
  have a : (Str.ofString "\n").length = 1 := by decide +kernel
  rw [a]
  have : (vdLines kn mv v).length * 17000 ≤ 11 * 17000 := Nat.mul_le_mul_right _ hn
  omega
section
variable {P : Program} {w : World} {K : PySem.W.Frag} {mg : Str → Option Value} {base : Heap} {f T : Addr} {fd : FuncData} {Ps : List Addr}
abbrev sprint_verdict : Stmt := top 35
theorem scprint_verdict : FnScope ["book", "verdict", "prices", "loop", "pairs", "answers", "lines", "row", "plan", "kind", "answer"] ["book", "verdict"] (defScope sprint_verdict) := ⟨rfl, rfl, rfl, by decide +kernel, rfl, by decide +kernel, by decide +kernel⟩
theorem ok_print_verdict (F : Fun K "print_verdict" "print_verdict" sprint_verdict f fd) (G : Glb mg) (hBy : ∃ t, mg "BY" = some (.str byS t)) (hTop : ∃ t, mg "TOP" = some (.str topS t)) (D_print_numbers : Def P w K mg base "print_numbers" (2) ["word", "numbers"] (spA K Ps g_print_numbers)) (D_print_stock : Def P w K mg base "print_stock" (3) ["book", "stock"] (spA K Ps g_print_stock)) (D_print_plan : Def P w K mg base "print_plan" (14) ["book", "plan"] (spA K Ps g_print_plan)) (D_print_answer : Def P w K mg base "print_answer" (15) ["book", "kind", "answer"] (spA K Ps g_print_answer)) : FnOk P w K mg base CX0 (16) f fd ["book", "verdict"] (spA K Ps g_print_verdict) := by
  obtain ⟨t1, cBy⟩ := hBy
  obtain ⟨t2, cTop⟩ := hTop
  refine ok_fn F scprint_verdict (fun cs Q' h => ?_) (by decide) fun cdv A outer s H E hr => ?_
  · obtain ⟨kn, mv, v, rfl, hB, hv, h⟩ := h
    rfl
  have nd := scprint_verdict.nd
  refine ⟨_, ?fs, (pss_cons (ps_asg (pv 1) (pg_tup (n := 3) (by rfl) (pgs_cons (pg_tup (n := 2) (by rfl) (pgs_cons (pg_name (i := 2) nd rfl (Or.inl rfl)) (pgs_cons (pg_name (i := 3) nd rfl (Or.inl rfl)) pgs_nil))) (pgs_cons (pg_name (i := 4) nd rfl (Or.inl rfl)) (pgs_cons (pg_name (i := 5) nd rfl (Or.inl rfl)) pgs_nil)))))
    (pss_cons (ps_set (i := 6) nd rfl (Or.inl rfl) (pe_lst (pa_cons (pe_c D_print_numbers (hr.mono (by decide)) (pa_cons pe_str (pa_cons (pv 2) pa_nil))) (pa_cons (pe_c D_print_numbers (hr.mono (by decide)) (pa_cons pe_str (pa_cons (pv 3) pa_nil))) pa_nil))))
    (pss_cons (ps_for PassesOwn.never rfl (pi_tup (pv 4)) (pg_tup (n := 2) (by rfl) (pgs_cons (pg_name (i := 7) nd rfl (Or.inl rfl)) (pgs_cons (pg_name (i := 8) nd rfl (Or.inl rfl)) pgs_nil))) (pss_one (ps_expr (pe_bm PySem.F.plainAttrs_list PySem.F.slot_list_append PySem.F.type_list_append mt_append (pv 6) (pa_cons (fe_joined (.cons (pe_fmt (pe_gS cTop)) (.cons (pe_fmt (pe_c D_print_stock (hr.mono (by decide)) (pa_cons (pv 0) (pa_cons (pv 7) pa_nil)))) (.cons (pe_fmt (pe_gS cBy)) (.cons (pe_fmt (pe_c D_print_plan (hr.mono (by decide)) (pa_cons (pv 0) (pa_cons (pv 8) pa_nil)))) .nil))))) pa_nil)))))
    (pss_cons (ps_for PassesOwn.never rfl (pi_zipA rfl G.zip (pa_cons (pe_ix ix_tup (pv 0) pe_int (fun _ _ => rfl)) (pa_cons (pv 5) pa_nil))) (pg_tup (n := 2) (by rfl) (pgs_cons (pg_name (i := 9) nd rfl (Or.inl rfl)) (pgs_cons (pg_name (i := 10) nd rfl (Or.inl rfl)) pgs_nil))) (pss_one (ps_expr (pe_bm PySem.F.plainAttrs_list PySem.F.slot_list_append PySem.F.type_list_append mt_append (pv 6) (pa_cons (pe_c D_print_answer (hr.mono (by decide)) (pa_cons (pv 0) (pa_cons (pv 9) (pa_cons (pv 10) pa_nil)))) pa_nil)))))
    (pss_one (ps_ret (fe_join pe_str (pv 6)))))))), ?inst, fun cs Q' hg => ?body⟩
  case inst =>
    dsimp only [cxOf, Cx.nox, Cx.wish, List.map]
    infer_instance
  case body =>
    obtain ⟨kn, mv, v, rfl, hB, hv, h⟩ := hg
    have h6 := hB.six
    have h8 := hB.eight
    have h3 := hv.rp
    have hp := hv.pr
    have hlp := hv.lp
    have z1 : 16777216 ≤ sizeLine := by decide
    have b0 : Str.empty.length = 0 := by decide +kernel
    have b1 : byS.length = 4 := by decide +kernel
    have b2 : topS.length = 4 := by decide +kernel
    have w1 : (Str.ofString "prices").length ≤ 20 := by decide +kernel
    have w2 : (Str.ofString "loop").length ≤ 20 := by decide +kernel
    have hlb := vd_lines hB hv
    simp [and_assoc, vdD]
    refine ⟨_, v.pr, rfl, w1, by omega, hv.prb, ?_⟩
    simp [and_assoc]
    refine ⟨_, v.lp, rfl, w2, by omega, hv.lpb, ?_⟩
    simp [and_assoc]
    refine forF_idx topD (fun (i : Nat) s => ∃ (c7 c8 c9 c10 : SC K), s = [.f (.d (bkD kn mv)), .f (.d (vdD v)), .f (.d (nsD v.pr)), .f (.d (nsD v.lp)), .f (.d (.tuple (v.rp.map topD))), .f (.d (.tuple (v.an.map ansD))), .f (.l (.str (lineN (Str.ofString "prices") v.pr) :: .str (lineN (Str.ofString "loop") v.lp) :: ((v.rp.take i).map fun t => .str (topT kn mv t)))), c7, c8, c9, c10] ∧ blS c7 = true ∧ blS c8 = true ∧ blS c9 = true ∧ blS c10 = true) v.rp (fun _ _ _ => trivial) ⟨.e, .e, .e, .e, by simp [vdD], rfl, rfl, rfl, rfl⟩ (fun i s t ht ⟨c7, c8, c9, c10, es, b7, b8, b9, b10⟩ N hN => ?_) (fun s ⟨c7, c8, c9, c10, es, b7, b8, b9, b10⟩ => ?_)
    · subst es
      have htm := List.mem_of_getElem? ht
      obtain ⟨⟨q1, q2⟩, q3⟩ := top_len hB hv t htm
      obtain ⟨t1, t2, t3, t4⟩ := hv.tp t htm
      simp [and_assoc, can_bl b7, can_bl b8, topD, Str.length_append, b0, b1, b2]
      refine ⟨by omega, x_pstock ⟨t1, by omega, hB.kindOk, t2, ?_⟩⟩
      simp [and_assoc, Str.length_append, b0, b1, b2]
      refine ⟨by omega, by omega, by omega, by omega, kn, mv, t.2, rfl, hB, t3, t4, ?_⟩
      simp [and_assoc, Str.length_append, b0, b1, b2]
      rw [empty_app]
      refine ⟨by omega, by omega, by omega, hN _ ⟨.f (.d (iD t.1)), .f (.d (planD t.2)), c9, c10, ?_, rfl, rfl, b9, b10⟩⟩
      rw [List.take_succ, ht]
      simp [vdD, topT]
    · subst es
      rw [List.take_length]
      simp [and_assoc]
      rw [zipD_map]
      refine forF_idx _ (fun (i : Nat) s => ∃ (c7 c8 c9 c10 : SC K), s = [.f (.d (bkD kn mv)), .f (.d (vdD v)), .f (.d (nsD v.pr)), .f (.d (nsD v.lp)), .f (.d (.tuple (v.rp.map topD))), .f (.d (.tuple (v.an.map ansD))), .f (.l (.str (lineN (Str.ofString "prices") v.pr) :: .str (lineN (Str.ofString "loop") v.lp) :: (v.rp.map (fun t => PyData.str (topT kn mv t)) ++ ((kn.zip v.an).take i).map fun p => PyData.str (ansT mv p.1 p.2)))), c7, c8, c9, c10] ∧ blS c9 = true ∧ blS c10 = true) (kn.zip v.an) (fun _ _ _ => trivial) ⟨c7, c8, c9, c10, by simp, b9, b10⟩ (fun i s p hp ⟨c7, c8, c9, c10, es, b9, b10⟩ N hN => ?_) (fun s ⟨c7, c8, c9, c10, es, b9, b10⟩ => ?_)
      · subst es
        have hpm := List.of_mem_zip (List.mem_of_getElem? (l := kn.zip v.an) (a := (p.1, p.2)) hp)
        have hi := (List.getElem?_eq_some_iff.mp hp).1
        rw [List.length_zip] at hi
        simp [and_assoc, can_bl b9, can_bl b10]
        refine ⟨kn, mv, p.1, p.2, rfl, hB, (hB.kindOk _ hpm.1).len, hv.ao _ hpm.2, ?_⟩
        simp [and_assoc]
        refine ⟨by omega, hN _ ⟨c7, c8, .f (.d (.str p.1)), .f (.d (ansD p.2)), ?_, rfl, rfl⟩⟩
        rw [List.take_succ, hp]
        simp
      · subst es
        rw [List.take_length]
        simp [and_assoc]
        refine ⟨vdLines kn mv v, ?_, hlb.2, h⟩
        have : PyData.str (lineN (Str.ofString "prices") v.pr) :: PyData.str (lineN (Str.ofString "loop") v.lp) :: (v.rp.map (fun t => PyData.str (topT kn mv t)) ++ (kn.zip v.an).map fun p => PyData.str (ansT mv p.1 p.2)) = (vdLines kn mv v).map PyData.str := by
          unfold vdLines
          rw [List.map_cons, List.map_cons, List.map_append, List.map_map, List.map_map]
          rfl
        rw [this, strsOf_map]
end
end Fw


namespace Fw
open PySem PySem.Spec PyProof.Rows L2 GxR Gx Gy RZ Mint
/-! ### the law's plans -/
theorem gst_mono {nm a b c : Nat} (h : a ≤ b) : ∀ (d : Nat) (s : RSt), GSt nm (a, c) d s → GSt nm (b, c) d s
  | 0, _, h' => h'
  | d + 1, s, h' => by
    rcases h' with h' | ⟨k, r, e, h1, h2, h3, h4, h5⟩
    · exact .inl h'
    · exact .inr ⟨k, r, e, h1, Nat.le_trans h2 h, h3, h4, fun x hx => gst_mono h d x (h5 x hx)⟩
theorem grn_mono {nm a b c d : Nat} {r : List RSt} (h : a ≤ b) (hr : GRn nm (a, c) d r) : GRn nm (b, c) d r := ⟨hr.three, fun x hx => gst_mono h d x (hr.all x hx)⟩
theorem part_signs {kn : List Str} {mv : List Mv} (hB : GoodBk kn mv) {p : Part} (h : GRn mv.length tt3 2 p.2) : ∀ c ∈ sgn (partT mv p), c ≤ 122 := fun c hc => by
  unfold partT at hc
  rw [sgn_app, sgn_app] at hc
  rcases List.mem_append.mp hc with hc | hc
  · rcases List.mem_append.mp hc with hc | hc
    · have : ∀ b, ∀ c ∈ sgn (wdS b), c ≤ 122 := by decide +kernel
      exact this _ c hc
    · exact (by decide +kernel : ∀ c ∈ sgn sp1, c ≤ 122) c hc
  · refine jn_signs (fun x hx => ?_) c hc
    rw [stTs_map] at hx
    obtain ⟨s, hs, rfl⟩ := List.mem_map.mp hx
    exact st_signs hB 2 s (h.all s hs)
def g__law_plan {K : PySem.W.Frag} : GF K := fun cs Q => ∃ (kn : List Str) (mv : List Mv), cs = [.x (drawsO K), .d (bkD kn mv)] ∧ GoodBk kn mv ∧ ∀ pl, PlOk mv.length 2 pl → pl.length ≤ 5 → Q (.d (planD pl)) cs
def g__law_plan_text {K : PySem.W.Frag} : GF K := fun cs Q => ∃ (kn : List Str) (mv : List Mv) (pl : List Part), cs = [.d (bkD kn mv), .d (planD pl)] ∧ GoodBk kn mv ∧ PlOk mv.length 2 pl ∧ pl.length ≤ 5 ∧ Q (.d (.str (planT mv pl))) cs
def g__law_number {K : PySem.W.Frag} : GF K := fun cs Q => cs = [.x (drawsO K)] ∧ ∀ n : Nat, n ≤ 10 ^ 30 → Q (.d (.int (n : Nat))) cs
section
variable {P : Program} {w : World} {K : PySem.W.Frag} {mg : Str → Option Value} {base : Heap} {f T : Addr} {fd : FuncData} {Ps : List Addr}
abbrev s_law_number : Stmt := top 60
theorem sc_law_number : FnScope ["draws"] ["draws"] (defScope s_law_number) := ⟨rfl, rfl, rfl, by decide +kernel, rfl, by decide +kernel, by decide +kernel⟩
theorem ok__law_number (F : Fun K "_law_number" "_law_number" s_law_number f fd) (G : Glb mg)  (D__law_take : Def P w K mg base "_law_take" (1) ["draws", "bound"] (spA K Ps (g_take K))) : FnOk P w K mg base CX0 (2) f fd ["draws"] (spA K Ps g__law_number) := by
  refine ok_fn F sc_law_number (fun cs Q' h => ?_) (by decide) fun cdv A outer s H E hr => ?_
  · obtain ⟨rfl, h⟩ := h
    rfl
  have nd := sc_law_number.nd
  refine ⟨_, ?fs, (pss_one (ps_ret (pe_ix ix_list (pe_lst (pa_cons pe_int (pa_cons pe_int (pa_cons (pe_c D__law_take (hr.mono (by decide)) (pa_cons (pv 0) (pa_cons pe_int pa_nil))) (pa_cons (pe_op op_pow pe_int pe_int) pa_nil))))) (pe_c D__law_take (hr.mono (by decide)) (pa_cons (pv 0) (pa_cons pe_int pa_nil))) (fun _ _ => rfl)))), ?inst, fun cs Q' hg => ?body⟩
  case inst =>
    dsimp only [cxOf, Cx.nox, Cx.wish, List.map]
    infer_instance
  case body =>
    obtain ⟨rfl, h⟩ := hg
    simp [and_assoc]
    intro v1 h1 h2
    refine ⟨⟨by decide, by decide, by decide⟩, fun v2 h3 h4 => ?_⟩
    obtain ⟨u, rfl⟩ := Int.eq_ofNat_of_zero_le h1
    rcases (by omega : v2 = 0 ∨ v2 = 1 ∨ v2 = 2 ∨ v2 = 3) with rfl | rfl | rfl | rfl
    · simp
      exact h 0 (by decide)
    · simp
      exact h 1 (by decide)
    · simp
      exact h u (by omega)
    · simp
      exact h (10 ^ 30) (by decide)
abbrev s_law_plan : Stmt := top 58
theorem sc_law_plan : FnScope ["draws", "book", "parts", "k", "run"] ["draws", "book"] (defScope s_law_plan) := ⟨rfl, rfl, rfl, by decide +kernel, rfl, by decide +kernel, by decide +kernel⟩
theorem ok__law_plan (F : Fun K "_law_plan" "_law_plan" s_law_plan f fd) (G : Glb mg)  (D__law_take : Def P w K mg base "_law_take" (1) ["draws", "bound"] (spA K Ps (g_take K))) (D__law_run : Def P w K mg base "_law_run" (7) ["draws", "moves", "depth", "times"] (spA K Ps (g__law_run 5))) : FnOk P w K mg base CX0 (8) f fd ["draws", "book"] (spA K Ps g__law_plan) := by
  refine ok_fn F sc_law_plan (fun cs Q' h => ?_) (by decide) fun cdv A outer s H E hr => ?_
  · obtain ⟨kn, mv, rfl, hB, h⟩ := h
    rfl
  have nd := sc_law_plan.nd
  refine ⟨_, ?fs, (pss_cons (ps_set (i := 2) nd rfl (Or.inl rfl) (pe_lst pa_nil))
    (pss_cons (ps_for PassesOwn.never rfl (pi_range1 rfl G.range (pa_cons (pe_c D__law_take (hr.mono (by decide)) (pa_cons (pv 0) (pa_cons pe_int pa_nil))) pa_nil)) (pg_name (i := 3) nd rfl (Or.inl rfl)) (pss_cons (ps_set (i := 4) nd rfl (Or.inl rfl) (pe_c D__law_run (hr.mono (by decide)) (pa_cons (pv 0) (pa_cons (pe_callB cr_len rfl G.len PySem.boot_len (pa_cons (pe_ix ix_tup (pv 1) pe_int (fun _ _ => rfl)) pa_nil)) (pa_cons pe_int (pa_cons (pe_op op_pow pe_int pe_int) pa_nil))))))
    (pss_one (ps_if (pt_cmpR (op_neD hr.units) (pv 4) (pe_tup pa_nil) (nomark _)) (pss_one (ps_expr (pe_bm PySem.F.plainAttrs_list PySem.F.slot_list_append PySem.F.type_list_append mt_append (pv 2) (pa_cons (pe_tup (pa_cons (pe_ix ix_list (pe_lst (pa_cons pe_str (pa_cons pe_str pa_nil))) (pe_c D__law_take (hr.mono (by decide)) (pa_cons (pv 0) (pa_cons pe_int pa_nil))) (fun _ _ => rfl)) (pa_cons (pv 4) pa_nil))) pa_nil)))) pss_nil))))
    (pss_one (ps_ret (pe_callTy cr_tuple rfl G.tuple (by decide +kernel) (pa_cons (pv 2) pa_nil)))))), ?inst, fun cs Q' hg => ?body⟩
  case inst =>
    dsimp only [cxOf, Cx.nox, Cx.wish, List.map]
    infer_instance
  case body =>
    obtain ⟨kn, mv, rfl, hB, h⟩ := hg
    have h8 := hB.eight
    simp [and_assoc]
    intro v h0 h1
    obtain ⟨u, rfl⟩ := Int.eq_ofNat_of_zero_le h0
    rw [Int.toNat_natCast]
    refine ⟨by omega, by omega, ?_⟩
    refine forF_range (n := u) (fun (i : Nat) s => ∃ (pl : List Part) (c3 c4 : SC K), s = [.io (.x (drawsO K)), .f (.d (bkD kn mv)), .f (.l (pl.map partD)), c3, c4] ∧ blS c3 = true ∧ blS c4 = true ∧ pl.length ≤ i ∧ PlOk mv.length 2 pl) (fun _ _ _ => trivial) ⟨[], .e, .e, rfl, rfl, rfl, Nat.zero_le _, ⟨by simp, fun p hp => nomatch hp⟩⟩ (fun i s hi ⟨pl, c3, c4, es, b3, b4, hl, hp⟩ N hN => ?_) (fun s ⟨pl, c3, c4, es, b3, b4, hl, hp⟩ => ?_)
    · subst es
      have hpn := hp.n
      simp [and_assoc, can_bl b3]
      refine ⟨⟨by decide, by decide, by decide⟩, mv.length, 2, 10 ^ 9, rfl, by decide, by decide, by decide, fun r hr => ?_⟩
      have sr := shaped_rn hr (by decide)
      have hr3 := grn_mono (b := 10 ^ 30) (by decide) hr
      simp [and_assoc, can_bl b4, sr, shaped_nil, eqv_rn]
      cases r with
      | nil =>
        simp
        exact hN _ ⟨pl, _, _, rfl, rfl, rfl, by omega, hp⟩
      | cons x r =>
        simp
        have fin : ∀ b : Bool, N [.io (.x (drawsO K)), .f (.d (bkD kn mv)), .f (.l (pl.map partD ++ [.tuple [.str (wdS b), .tuple (rnD (x :: r))]])), .f (.d (.int (i : Int))), .f (.d (.tuple (rnD (x :: r))))] := fun b =>
          hN _ ⟨pl ++ [(b, x :: r)], _, _, by rw [List.map_append]; rfl, rfl, rfl, by rw [List.length_append]; simp; omega, ⟨by rw [List.length_append]; simp; omega, fun p hpm => by
            rcases List.mem_append.mp hpm with hpm | hpm
            · exact hp.g p hpm
            · rw [List.mem_singleton.mp hpm]; exact ⟨hr3, by simp⟩⟩⟩
        intro v2 h2 h3
        rcases (by omega : v2 = 0 ∨ v2 = 1) with rfl | rfl
        · simp
          exact ⟨by omega, fin false⟩
        · simp
          exact ⟨by omega, fin true⟩
    · subst es
      simp [and_assoc]
      exact h pl hp (by omega)
abbrev s_law_plan_text : Stmt := top 59
theorem sc_law_plan_text : FnScope ["book", "plan", "parts", "word", "run"] ["book", "plan"] (defScope s_law_plan_text) := ⟨rfl, rfl, rfl, by decide +kernel, rfl, by decide +kernel, by decide +kernel⟩
theorem ok__law_plan_text (F : Fun K "_law_plan_text" "_law_plan_text" s_law_plan_text f fd) (G : Glb mg)  (D__law_run_text : Def P w K mg base "_law_run_text" (7) ["book", "run"] (spA K Ps (g__law_run_text 5))) : FnOk P w K mg base CX0 (8) f fd ["book", "plan"] (spA K Ps g__law_plan_text) := by
  refine ok_fn F sc_law_plan_text (fun cs Q' h => ?_) (by decide) fun cdv A outer s H E hr => ?_
  · obtain ⟨kn, mv, pl, rfl, hB, hp, hn, h⟩ := h
    rfl
  have nd := sc_law_plan_text.nd
  refine ⟨_, ?fs, (pss_cons (ps_setLc (i := 2) (own := [("word", 3), ("run", 4)]) (g := (L2.gTup K 2 (gCons (gName 3) (gCons (gName 4) gNil)))) (te := (tOp rCatS (tOp rCatS (tVar 3) (tC (.str " "))) (tCall (spA K Ps (g__law_run_text 5)) [] E0 (tCons (tVar 0) (tCons (tVar 4) tNil))))) (tt := tYes) rfl nd rfl rfl (sw_true rfl rfl rfl (by decide +kernel)) (pi_tup (pv 1)) (blkOk_by (own := [("word", 3), ("run", 4)]) (N := ["book", "plan", "parts", "word", "run"]) (sc := defScope s_law_plan_text) (by decide +kernel)) (fun _ _ _ _ _ => (pg_tup (n := 2) (by rfl) (pgs_cons (pg_name (i := 3) nd rfl (Or.inl rfl)) (pgs_cons (pg_name (i := 4) nd rfl (Or.inl rfl)) pgs_nil)))) (fun _ _ _ _ _ => pts_nil) (fun _ _ _ _ _ => (pe_op fo_catS (pe_op fo_catS (pv 3) pe_str) (pe_c D__law_run_text (hr.mono (by decide)) (pa_cons (pv 0) (pa_cons (pv 4) pa_nil))))))
    (pss_one (ps_ret (pe_ifExp (pt_cmpR (fo_eqC hr.units) (pv 2) (pe_lst pa_nil) (nomark _)) pe_str (fe_join pe_str (pv 2)))))), ?inst, fun cs Q' hg => ?body⟩
  case inst =>
    dsimp only [cxOf, Cx.nox, Cx.wish, List.map]
    infer_instance
  case body =>
    obtain ⟨kn, mv, pl, rfl, hB, hp, hn, h⟩ := hg
    have hb := plan_bound hB hp hn
    simp [and_assoc, planD]
    refine compF_map partD (fun p => PyData.str (partT mv p)) pl (by simp) (by omega) (fun p hpm T hT => ?_) ?_
    · have z1 : 10000000 ≤ sizeLine := by decide
      have a : (Str.ofString " ").length = 1 := by decide +kernel
      have l1 := wd_len p.1
      have l2 := rn_len2 hB (hp.g p hpm).1
      simp [and_assoc, partD]
      refine ⟨by omega, kn, mv, p.2, 2, rfl, hB, by decide, by decide, (hp.g p hpm).1, ?_⟩
      simp [and_assoc, Str.length_append]
      exact ⟨by omega, hT _ rfl rfl⟩
    · have e1 : pl.map (fun p => PyData.str (partT mv p)) = (pl.map (partT mv)).map PyData.str := by rw [List.map_map]; rfl
      have hsg : ∀ x ∈ pl.map (partT mv), ∀ c ∈ sgn x, c ≤ 122 := fun x hx => by
        obtain ⟨p, hpm, rfl⟩ := List.mem_map.mp hx
        exact part_signs hB (hp.g p hpm).1
      rw [e1]
      obtain ⟨L, eL⟩ : ∃ L, L = pl.map (partT mv) := ⟨_, rfl⟩
      have eT : planT mv pl = if L = [] then Str.ofString "nothing" else Txt.join gtS L := by
        unfold planT
        rw [eL]
        cases pl with
        | nil => rfl
        | cons p r => rw [if_neg (by simp), if_neg (by simp)]
      rw [eT] at h
      rw [← eL] at hb hsg ⊢
      simp [and_assoc]
      refine ⟨shaped_strs hsg, by decide +kernel, ?_⟩
      rw [eqv_strs]
      cases L with
      | nil => exact h
      | cons y ys =>
        rw [if_neg (by simp)] at h
        rw [if_neg (by simp)]
        exact ⟨hb.1, h⟩
end
end Fw


namespace Fw
open PySem PySem.Spec PyProof.Rows L2 GxR Gx Gy RZ Mint
/-! ### the law's stocks -/
def g__law_stk {K : PySem.W.Frag} : GF K := fun cs Q => ∃ (kn : List Str) (mv : List Mv) (es : List Int), cs = [.d (bkD kn mv), .d (iD es)] ∧ GoodBk kn mv ∧ es.length = kn.length ∧ (∀ e ∈ es, okE e) ∧ Q (.d (.str (textOf (itsOf kn (stW es))))) cs
theorem its_snoc {kn W : List Str} {i : Nat} {k w : Str} (hk : kn[i]? = some k) (hw : W[i]? = some w) : itsOf (kn.take (i + 1)) (W.take (i + 1)) = itsOf (kn.take i) (W.take i) ++ (if w = Str.ofString "" then [] else [(w, k)]) := by
  have h1 := (List.getElem?_eq_some_iff.mp hk).1
  have h2 := (List.getElem?_eq_some_iff.mp hw).1
  unfold itsOf
  rw [List.take_succ, List.take_succ, hk, hw, Option.toList_some, Option.toList_some, List.zip_append (by rw [List.length_take, List.length_take]; omega), List.filterMap_append]
  congr 1
  by_cases h : w = Str.ofString ""
  · simp [h]
  · simp [h]
section
variable {P : Program} {w : World} {K : PySem.W.Frag} {mg : Str → Option Value} {base : Heap} {f T : Addr} {fd : FuncData} {Ps : List Addr}
abbrev s_law_stock_text : Stmt := top 57
theorem sc_law_stock_text : FnScope ["book", "stock", "words", "k"] ["book", "stock"] (defScope s_law_stock_text) := ⟨rfl, rfl, rfl, by decide +kernel, rfl, by decide +kernel, by decide +kernel⟩
theorem ok__law_stock_text (F : Fun K "_law_stock_text" "_law_stock_text" s_law_stock_text f fd) (G : Glb mg)   : FnOk P w K mg base CX0 (2) f fd ["book", "stock"] (spA K Ps g__law_stk) := by
  refine ok_fn F sc_law_stock_text (fun cs Q' h => ?_) (by decide) fun cdv A outer s H E hr => ?_
  · obtain ⟨kn, mv, es, rfl, hB, he, ho, h⟩ := h
    rfl
  have nd := sc_law_stock_text.nd
  refine ⟨_, ?fs, (pss_cons (ps_set (i := 2) nd rfl (Or.inl rfl) (pe_lst pa_nil))
    (pss_cons (ps_for PassesOwn.never rfl (pi_range1 rfl G.range (pa_cons (pe_callB cr_len rfl G.len PySem.boot_len (pa_cons (pv 1) pa_nil)) pa_nil)) (pg_name (i := 3) nd rfl (Or.inl rfl)) (pss_one (ps_if (pt_cmpR op_ne (pe_ix ix_tup (pv 1) (pv 3) (fun _ _ => rfl)) pe_int (nomark _)) (pss_one (ps_expr (pe_bm PySem.F.plainAttrs_list PySem.F.slot_list_append PySem.F.type_list_append mt_append (pv 2) (pa_cons (pe_op fo_catS (pe_op fo_catS (pe_ifExp (pt_cmpR op_eq (pe_ix ix_tup (pv 1) (pv 3) (fun _ _ => rfl)) (pe_un un_neg pe_int) (nomark _)) pe_str (pe_callTy cr_str rfl G.str (by decide +kernel) (pa_cons (pe_ix ix_tup (pv 1) (pv 3) (fun _ _ => rfl)) pa_nil))) pe_str) (pe_ix ix_tup (pe_ix ix_tup (pv 0) pe_int (fun _ _ => rfl)) (pv 3) (fun _ _ => rfl))) pa_nil)))) pss_nil)))
    (pss_one (ps_ret (pe_ifExp (pt_cmpR (fo_eqC hr.units) (pv 2) (pe_lst pa_nil) (nomark _)) pe_str (fe_join pe_str (pv 2))))))), ?inst, fun cs Q' hg => ?body⟩
  case inst =>
    dsimp only [cxOf, Cx.nox, Cx.wish, List.map]
    infer_instance
  case body =>
    obtain ⟨kn, mv, es, rfl, hB, he, ho, h⟩ := hg
    have h6 := hB.six
    have hI := itsOk_of (by omega) hB.kindOk (stW_ok ho)
    have z1 : 10000000 ≤ sizeLine := by decide
    have a1 : (Str.ofString " ").length = 1 := by decide +kernel
    simp [and_assoc]
    refine ⟨by omega, ?_⟩
    refine forF_range (n := es.length) (fun (i : Nat) s => ∃ c3 : SC K, s = [.f (.d (bkD kn mv)), .f (.d (iD es)), .f (.l ((itsOf (kn.take i) ((stW es).take i)).map itD)), c3] ∧ blS c3 = true) (fun _ _ _ => trivial) ⟨.e, by simp [itsOf], rfl⟩ (fun i s hi ⟨c3, es_, b3⟩ N hN => ?_) (fun s ⟨c3, es_, b3⟩ => ?_)
    · subst es_
      have ek : kn[i]? = some (kn[i]'(by omega)) := List.getElem?_eq_getElem (by omega)
      have ee : es[i]? = some (es[i]'(by omega)) := List.getElem?_eq_getElem (by omega)
      obtain ⟨k, hk⟩ : ∃ k, k = kn[i]'(by omega) := ⟨_, rfl⟩
      obtain ⟨e, hee⟩ : ∃ e, e = es[i]'(by omega) := ⟨_, rfl⟩
      rw [← hk] at ek
      rw [← hee] at ee
      have hoe := ho e (List.mem_of_getElem? ee)
      have hkk := hB.kindOk k (List.mem_of_getElem? ek)
      have r1 : atI (es.map PyData.int) (i : Int) = some (.int e) := atI_nat (by rw [List.getElem?_map, ee]; rfl)
      have r2 : atI (kn.map PyData.str) (i : Int) = some (.str k) := atI_nat (by rw [List.getElem?_map, ek]; rfl)
      have ew : (stW es)[i]? = some (lawWord e) := by rw [List.getElem?_map, ee]; rfl
      have sn := its_snoc ek ew
      have hln : (itsOf (kn.take i) ((stW es).take i)).length ≤ 6 := Nat.le_trans (its_len ..) (by rw [List.length_take]; omega)
      obtain ⟨its, ei⟩ : ∃ its, its = itsOf (kn.take i) ((stW es).take i) := ⟨_, rfl⟩
      rw [← ei] at sn hln ⊢
      by_cases h0 : e = 0
      · have e1 : lawWord e = Str.ofString "" := by unfold lawWord; rw [if_pos h0]
        rw [if_pos e1, List.append_nil] at sn
        simp [and_assoc, can_bl b3, r1, h0, bookD]
        exact hN _ ⟨_, by rw [sn], rfl⟩
      · have e1 : lawWord e = entryS e := by unfold lawWord; rw [if_neg h0]
        have wo := entryS_ok hoe h0
        rw [e1, if_neg wo.ne] at sn
        have hst : N [.f (.d (bkD kn mv)), .f (.d (iD es)), .f (.l (its.map itD ++ [itD (entryS e, k)])), .f (.d (.int (i : Int)))] := hN _ ⟨_, by rw [sn, List.map_append]; rfl, rfl⟩
        have l1 := wo.len
        have l2 := hkk.len
        by_cases h1 : e = -1
        · have e2 : entryS e = Str.ofString "endless" := by unfold entryS; rw [if_pos h1]
          rw [e2] at hst l1
          subst h1
          simp [and_assoc, can_bl b3, r1, r2, bookD, Str.length_append]
          exact ⟨by omega, by omega, by omega, hst⟩
        · obtain ⟨n, rfl⟩ := Int.eq_ofNat_of_zero_le (show 0 ≤ e by rcases hoe with h | h <;> omega)
          have hn30 : n ≤ 10 ^ 30 := by rcases hoe with h | h <;> omega
          have e2 : entryS (n : Int) = numS n := by unfold entryS; rw [if_neg h1]; rfl
          rw [e2] at hst l1
          have h0' : ¬ n = 0 := by omega
          simp [and_assoc, can_bl b3, r1, r2, bookD, Str.length_append, h0', h1]
          rw [show Str.ofString (Int.repr (n : Int)) = numS n from rfl]
          exact ⟨log_num hn30, by omega, by omega, by omega, hst⟩
    · subst es_
      have t1 : kn.take es.length = kn := List.take_of_length_le (by omega)
      have t2 : (stW es).take es.length = stW es := List.take_of_length_le (by rw [List.length_map]; exact Nat.le_refl _)
      rw [t1, t2]
      simp [and_assoc]
      exact items_end (R := fun z => Q' (.d (.str z)) _) hI h
end
end Fw


namespace Fw
open PySem PySem.Spec PyProof.Rows L2 GxR Gx Gy RZ Mint
/-! ### a tuple of data and a list: made by return, taken apart by a target -/
def pairO (K : PySem.W.Frag) (d : PyData) (ds : List PyData) : Own K where
  R := fun H v F => ∃ p q w vs, v = .ref p ∧ F = [q] ∧ SqT K H p [w, .ref q] ∧ Fz K H w d ∧ H q = some (.lst vs) ∧ FzA K H vs ds
  keep := fun {H H' v F G} ⟨p, q, w, vs, e, eF, h1, h2, h3, h4⟩ n k => by
    subst eF
    exact ⟨p, q, w, vs, e, rfl, k.sqT h1, h2.keep k, k.obj _ _ (n q (List.mem_singleton.mpr rfl)) rfl h3, h4.keep k⟩
  live := fun {H v F} ⟨p, q, w, vs, e, eF, h1, h2, h3, h4⟩ x hx z => by
    subst eF
    rw [List.mem_singleton.mp hx, h3] at z; cases z
  ref := fun ⟨p, _, _, _, e, _⟩ => ⟨p, e⟩
def tRetPair (te : TE) (i : Nat) : TS := tRet (tTup (tCons te (tCons (tVar i) tNil)))
section
variable {X : Cx}
theorem ps_retPair {e : Expr} {te : TE} {i : Nat} {pos p1 p2 : Pos} {k : Nat} {x : Str} (he : PE X e te) (hv : PE X (.Name x p1) (tVar i)) (hs : starEach [e, .Name x p1] X.env = (false, eval e X.env) :: starEach [.Name x p1] X.env := by rfl) (h2 : starEach [.Name x p1] X.env = (false, eval (.Name x p1) X.env) :: starEach [] X.env := by rfl) : PS X (.Return (some (.Tuple [e, .Name x p1] k p2)) pos) (tRetPair te i) :=
  ps_ret (pe_tup (pa_cons he (pa_cons hv pa_nil (hs := h2)) (hs := hs)))
end
section
variable {K : PySem.W.Frag} {Ps : List Addr} {te : TE} {fe : AE K} {s : Sto K} {D : AEnds K}
def aRetPair {K : PySem.W.Frag} (a : AE K) (i : Nat) : AS K := fun D s => a s fun r s1 => ∃ x ds, r = .d x ∧ cnAt s1 i = some (.l ds) ∧ canSet s1 i = true ∧ D.rt (.x (pairO K x ds)) (s1.set i .e)
instance snd_retPair {i : Nat} [a : SndE K Ps te fe] : SndS K Ps (tRetPair te i) (aRetPair fe i) := ⟨fun {base M P H σ s fp D D'} rs h d => by
  refine a.run rs h fun v H1 r s1 G r1 k e n ⟨x, ds, er, ec, hc, h1⟩ => ?_
  subst er
  obtain ⟨w, q1, p, vs, ew, eF, hp, hA⟩ := r1.cn i _ ec
  subst ew
  refine ⟨.ref p, q1, (by show 2 ≤ sizeLine; decide), fun t ht => ?_⟩
  have kt : Kp F0 H1 (upd H1 t (.tup [v, .ref p])) := .new ht _
  have r2 := r1.ext kt
  have htp : p ≠ t := fun z => by rw [z, ht] at hp; cases hp
  refine d.rt (r2.drop hc) (G := fp i) (c := .x (pairO K x ds)) ⟨t, p, v, vs, rfl, eF, SqT.of upd_same, e.1.keep kt, (upd_ne htp).trans hp, hA.keep kt⟩ (fun a ha => ⟨fun ⟨j, hj⟩ => ?_, r2.fr i a ha⟩) h1
  have hj' : a ∈ (if i = j then [] else fp j) := hj
  by_cases z : i = j
  · rw [if_pos z] at hj'; cases hj'
  · rw [if_neg z] at hj'; exact z (r2.dj i j a ha hj')⟩
def gPair (K : PySem.W.Frag) (i j : Nat) : TG := L2.gTup K 2 (gCons (gName i) (gCons (gName j) gNil))
theorem pg_pair {X : Cx} {es : Expr} {i j : Nat} (h : PG X es (L2.gTup X.K 2 (gCons (gName i) (gCons (gName j) gNil)))) : PG X es (gPair X.K i j) := h
def aPairG {K : PySem.W.Frag} (i j : Nat) : AG K := fun r s Q => ∃ d ds, r = .n (.x (pairO K d ds)) ∧ canSet s i = true ∧ canSet (s.set i (.f (.d d))) j = true ∧ Q ((s.set i (.f (.d d))).set j (.f (.l ds)))
instance snd_pairG {i j : Nat} : SndG K Ps (gPair K i j) (aPairG i j) [i, j] := ⟨fun {base M P H σ s fp v r G Q Q'} rs e n h q => by
  obtain ⟨d, ds, er, c1, c2, hq⟩ := h
  subst er
  obtain ⟨p, l, w, vs, ev, eG, hS, hw, hl, hA⟩ := e
  subst ev eG
  refine ⟨p, [w, .ref l], rfl, hS, rfl, w, [.ref l], rfl, .ref l, [], rfl, rfl, ?_⟩
  have r1 := rs.put (c := .d d) (G := []) c1 ⟨hw, rfl⟩ (fun a z => nomatch z)
  have nl := n l (List.mem_singleton.mpr rfl)
  have r2 := r1.put (c := .l ds) (G := [l]) (v := .ref l) c2 ⟨l, vs, rfl, rfl, hl, hA⟩ (fun a ha => by
    rw [List.mem_singleton.mp ha]
    refine ⟨fun ⟨k, hk⟩ => ?_, nl.2⟩
    have hk' : l ∈ (if i = k then [] else fp k) := hk
    by_cases z : i = k
    · rw [if_pos z] at hk'; cases hk'
    · rw [if_neg z] at hk'; exact nl.1 ⟨k, hk'⟩)
  refine q _ _ _ r2 ⟨by rw [List.length_set, List.length_set], fun k hk => ?_⟩ (fun ⟨d, e⟩ => by cases e) hq
  have n1 : i ≠ k := fun z => hk (by rw [z]; exact List.mem_cons_self)
  have n2 : j ≠ k := fun z => hk (by rw [z]; exact List.mem_cons_of_mem _ List.mem_cons_self)
  refine ⟨by rw [List.getElem?_set_ne n2, List.getElem?_set_ne n1], ?_⟩
  show (if j = k then [l] else if i = k then [] else fp k) = fp k
  rw [if_neg n2, if_neg n1]⟩
@[simp] theorem x_retPair {i : Nat} {a : AE K} : aRetPair a i D s ↔ a s fun r s1 => ∃ x ds, r = .d x ∧ cnAt s1 i = some (.l ds) ∧ canSet s1 i = true ∧ D.rt (.x (pairO K x ds)) (s1.set i .e) := Iff.rfl
theorem x_pairG {i j : Nat} {d : PyData} {ds : List PyData} {Q : Sto K → Prop} (h : canSet s i = true ∧ canSet (s.set i (.f (.d d))) j = true ∧ Q ((s.set i (.f (.d d))).set j (.f (.l ds)))) : aPairG (K := K) i j (.n (.x (pairO K d ds))) s Q := ⟨d, ds, rfl, h⟩
end
end Fw


namespace Fw
open PySem PySem.Spec PyProof.Rows L2 GxR Gx Gy RZ Mint
/-! ### the drawn value -/
def g__law_value {K : PySem.W.Frag} : GF K := fun cs Q => ∃ (kn : List Str) (mv : List Mv), cs = [.x (drawsO K), .d (bkD kn mv)] ∧ GoodBk kn mv ∧ ∀ v, VdOk kn mv v → Q (.x (pairO K (vdD v) ((vdLines kn mv v).map PyData.str))) cs
theorem zip_snoc {α β : Type} : ∀ {xs : List α} {ys : List β} {x : α} {y : β}, xs[ys.length]? = some x → xs.zip (ys ++ [y]) = xs.zip ys ++ [(x, y)]
  | [], ys, x, y, h => by simp at h
  | a :: xs, [], x, y, h => by simp at h; subst h; simp
  | a :: xs, b :: ys, x, y, h => by
    have := zip_snoc (xs := xs) (ys := ys) (y := y) (by simpa using h)
    simp [this]
theorem line_sum {w : Str} {ns : List Nat} (hw : w.length ≤ 20) (hn : ns.length ≤ 20) (hb : ∀ n ∈ ns, n ≤ 10 ^ 30) : ((w :: ns.map numS).map (·.length)).sum + (w :: ns.map numS).length * sp1.length ≤ 16777216 := by
  have h1 := sum_le (f := (·.length)) (b := 31) (w :: ns.map numS) fun x hx => by
    rcases List.mem_cons.mp hx with rfl | hx
    · omega
    · obtain ⟨n, hn', rfl⟩ := List.mem_map.mp hx
      exact numS_len (hb n hn')
  have a : sp1.length = 1 := by decide +kernel
  rw [List.length_cons, List.length_map] at h1 ⊢
  rw [a]
  omega
theorem strs_line (w : Str) (ns : List Nat) : strsOf (PyData.str w :: ns.map (fun n => PyData.str (numS n))) = some (w :: ns.map numS) := by
  have : PyData.str w :: ns.map (fun n => PyData.str (numS n)) = (w :: ns.map numS).map PyData.str := by
    rw [List.map_cons, List.map_map]; rfl
  rw [this, strsOf_map]
section
variable {P : Program} {w : World} {K : PySem.W.Frag} {mg : Str → Option Value} {base : Heap} {f T : Addr} {fd : FuncData} {Ps : List Addr}
abbrev s_law_value : Stmt := top 61
theorem sc_law_value : FnScope ["draws", "book", "n", "prices", "loop", "lines", "report", "k", "stock", "plan", "answers", "move", "entry", "i"] ["draws", "book"] (defScope s_law_value) := ⟨rfl, rfl, rfl, by decide +kernel, rfl, by decide +kernel, by decide +kernel⟩
theorem ok__law_value (F : Fun K "_law_value" "_law_value" s_law_value f fd) (G : Glb mg)  (D__law_take : Def P w K mg base "_law_take" (1) ["draws", "bound"] (spA K Ps (g_take K))) (D__law_run : Def P w K mg base "_law_run" (7) ["draws", "moves", "depth", "times"] (spA K Ps (g__law_run 5))) (D__law_run_text : Def P w K mg base "_law_run_text" (7) ["book", "run"] (spA K Ps (g__law_run_text 5))) (D__law_stock_text : Def P w K mg base "_law_stock_text" (2) ["book", "stock"] (spA K Ps g__law_stk)) (D__law_number : Def P w K mg base "_law_number" (2) ["draws"] (spA K Ps g__law_number)) (D__law_plan : Def P w K mg base "_law_plan" (8) ["draws", "book"] (spA K Ps g__law_plan)) (D__law_plan_text : Def P w K mg base "_law_plan_text" (8) ["book", "plan"] (spA K Ps g__law_plan_text)) : FnOk P w K mg base CX0 (9) f fd ["draws", "book"] (spA K Ps g__law_value) := by
  refine ok_fn F sc_law_value (fun cs Q' h => ?_) (by decide) fun cdv A outer s H E hr => ?_
  · obtain ⟨kn, mv, rfl, hB, h⟩ := h
    rfl
  have nd := sc_law_value.nd
  refine ⟨_, ?fs, (pss_cons (ps_set (i := 2) nd rfl (Or.inl rfl) (pe_callB cr_len rfl G.len PySem.boot_len (pa_cons (pe_ix ix_tup (pv 1) pe_int (fun _ _ => rfl)) pa_nil)))
    (pss_cons (ps_set (i := 3) nd rfl (Or.inl rfl) (pe_callTy cr_tuple rfl G.tuple (by decide +kernel) (pa_cons (pe_lc (own := [("k", 7)]) (g := (gName 7)) (te := (tCall (spA K Ps g__law_number) [] E0 (tCons (tVar 0) tNil))) (tt := tYes) rfl nd (pi_range1 rfl G.range (pa_cons (pv 2) pa_nil)) (blkOk_by (own := [("k", 7)]) (N := ["draws", "book", "n", "prices", "loop", "lines", "report", "k", "stock", "plan", "answers", "move", "entry", "i"]) (sc := defScope s_law_value) (by decide +kernel)) (fun _ _ _ _ _ => (pg_name (i := 7) nd rfl (Or.inl rfl))) (fun _ _ _ _ _ => pts_nil) (fun _ _ _ _ _ => (pe_c D__law_number (hr.mono (by decide)) (pa_cons (pv 0) pa_nil)))) pa_nil)))
    (pss_cons (ps_set (i := 4) nd rfl (Or.inl rfl) (pe_callTy cr_tuple rfl G.tuple (by decide +kernel) (pa_cons (pe_lc (own := [("move", 11)]) (g := (gName 11)) (te := (tCall (spA K Ps g__law_number) [] E0 (tCons (tVar 0) tNil))) (tt := tYes) rfl nd (pi_tup (pe_ix ix_tup (pv 1) pe_int (fun _ _ => rfl))) (blkOk_by (own := [("move", 11)]) (N := ["draws", "book", "n", "prices", "loop", "lines", "report", "k", "stock", "plan", "answers", "move", "entry", "i"]) (sc := defScope s_law_value) (by decide +kernel)) (fun _ _ _ _ _ => (pg_name (i := 11) nd rfl (Or.inl rfl))) (fun _ _ _ _ _ => pts_nil) (fun _ _ _ _ _ => (pe_c D__law_number (hr.mono (by decide)) (pa_cons (pv 0) pa_nil)))) pa_nil)))
    (pss_cons (ps_set (i := 5) nd rfl (Or.inl rfl) (pe_lst (pa_cons (fe_join pe_str (pe_op op_cat (pe_lst (pa_cons pe_str pa_nil)) (pe_lc (own := [("entry", 12)]) (g := (gName 12)) (te := (tCB rStrI (tCons (tVar 12) tNil))) (tt := tYes) rfl nd (pi_tup (pv 3)) (blkOk_by (own := [("entry", 12)]) (N := ["draws", "book", "n", "prices", "loop", "lines", "report", "k", "stock", "plan", "answers", "move", "entry", "i"]) (sc := defScope s_law_value) (by decide +kernel)) (fun _ _ _ _ _ => (pg_name (i := 12) nd rfl (Or.inl rfl))) (fun _ _ _ _ _ => pts_nil) (fun _ _ _ _ _ => (pe_callTy cr_str rfl G.str (by decide +kernel) (pa_cons (pv 12) pa_nil)))))) (pa_cons (fe_join pe_str (pe_op op_cat (pe_lst (pa_cons pe_str pa_nil)) (pe_lc (own := [("entry", 12)]) (g := (gName 12)) (te := (tCB rStrI (tCons (tVar 12) tNil))) (tt := tYes) rfl nd (pi_tup (pv 4)) (blkOk_by (own := [("entry", 12)]) (N := ["draws", "book", "n", "prices", "loop", "lines", "report", "k", "stock", "plan", "answers", "move", "entry", "i"]) (sc := defScope s_law_value) (by decide +kernel)) (fun _ _ _ _ _ => (pg_name (i := 12) nd rfl (Or.inl rfl))) (fun _ _ _ _ _ => pts_nil) (fun _ _ _ _ _ => (pe_callTy cr_str rfl G.str (by decide +kernel) (pa_cons (pv 12) pa_nil)))))) pa_nil))))
    (pss_cons (ps_set (i := 6) nd rfl (Or.inl rfl) (pe_lst pa_nil))
    (pss_cons (ps_for PassesOwn.never rfl (pi_range1 rfl G.range (pa_cons (pe_c D__law_take (hr.mono (by decide)) (pa_cons (pv 0) (pa_cons pe_int pa_nil))) pa_nil)) (pg_name (i := 7) nd rfl (Or.inl rfl)) (pss_cons (ps_set (i := 8) nd rfl (Or.inl rfl) (pe_callTy cr_tuple rfl G.tuple (by decide +kernel) (pa_cons (pe_lc (own := [("i", 13)]) (g := (gName 13)) (te := (tOp (rIxL K) (tLst (tCons (tUn (rU fun i => .int (-i)) (tC (.int 1))) (tCons (tCall (spA K Ps g__law_number) [] E0 (tCons (tVar 0) tNil)) tNil))) (tCall (spA K Ps (g_take K)) [] E0 (tCons (tVar 0) (tCons (tC (.int 2)) tNil))))) (tt := tYes) rfl nd (pi_range1 rfl G.range (pa_cons (pv 2) pa_nil)) (blkOk_by (own := [("i", 13)]) (N := ["draws", "book", "n", "prices", "loop", "lines", "report", "k", "stock", "plan", "answers", "move", "entry", "i"]) (sc := defScope s_law_value) (by decide +kernel)) (fun _ _ _ _ _ => (pg_name (i := 13) nd rfl (Or.inl rfl))) (fun _ _ _ _ _ => pts_nil) (fun _ _ _ _ _ => (pe_ix ix_list (pe_lst (pa_cons (pe_un un_neg pe_int) (pa_cons (pe_c D__law_number (hr.mono (by decide)) (pa_cons (pv 0) pa_nil)) pa_nil))) (pe_c D__law_take (hr.mono (by decide)) (pa_cons (pv 0) (pa_cons pe_int pa_nil))) (fun _ _ => rfl)))) pa_nil)))
    (pss_cons (ps_set (i := 9) nd rfl (Or.inl rfl) (pe_c D__law_plan (hr.mono (by decide)) (pa_cons (pv 0) (pa_cons (pv 1) pa_nil))))
    (pss_cons (ps_expr (pe_bm PySem.F.plainAttrs_list PySem.F.slot_list_append PySem.F.type_list_append mt_append (pv 6) (pa_cons (pe_tup (pa_cons (pv 8) (pa_cons (pv 9) pa_nil))) pa_nil)))
    (pss_one (ps_expr (pe_bm PySem.F.plainAttrs_list PySem.F.slot_list_append PySem.F.type_list_append mt_append (pv 5) (pa_cons (pe_op fo_catS (pe_op fo_catS (pe_op fo_catS pe_str (pe_c D__law_stock_text (hr.mono (by decide)) (pa_cons (pv 1) (pa_cons (pv 8) pa_nil)))) pe_str) (pe_c D__law_plan_text (hr.mono (by decide)) (pa_cons (pv 1) (pa_cons (pv 9) pa_nil)))) pa_nil))))))))
    (pss_cons (ps_set (i := 10) nd rfl (Or.inl rfl) (pe_lst pa_nil))
    (pss_cons (ps_for PassesOwn.never rfl (pi_range1 rfl G.range (pa_cons (pv 2) pa_nil)) (pg_name (i := 7) nd rfl (Or.inl rfl)) (pss_one (ps_if (pt_cmpR op_eq (pe_c D__law_take (hr.mono (by decide)) (pa_cons (pv 0) (pa_cons pe_int pa_nil))) pe_int (nomark _)) (pss_cons (ps_expr (pe_bm PySem.F.plainAttrs_list PySem.F.slot_list_append PySem.F.type_list_append mt_append (pv 10) (pa_cons (pe_tup (pa_cons pe_str (pa_cons (pe_c D__law_number (hr.mono (by decide)) (pa_cons (pv 0) pa_nil)) (pa_cons (pe_c D__law_run (hr.mono (by decide)) (pa_cons (pv 0) (pa_cons (pe_callB cr_len rfl G.len PySem.boot_len (pa_cons (pe_ix ix_tup (pv 1) pe_int (fun _ _ => rfl)) pa_nil)) (pa_cons pe_int (pa_cons (pe_op op_pow pe_int pe_int) pa_nil))))) pa_nil)))) pa_nil)))
    (pss_one (ps_expr (pe_bm PySem.F.plainAttrs_list PySem.F.slot_list_append PySem.F.type_list_append mt_append (pv 5) (pa_cons (pe_op fo_catS (pe_op fo_catS (pe_op fo_catS (pe_op fo_catS (pe_op fo_catS pe_str (pe_ix ix_tup (pe_ix ix_tup (pv 1) pe_int (fun _ _ => rfl)) (pv 7) (fun _ _ => rfl))) pe_str) (pe_callTy cr_str rfl G.str (by decide +kernel) (pa_cons (pe_ix ix_tup (pe_ix ix_list (pv 10) (pv 7) (fun _ _ => rfl)) pe_int (fun _ _ => rfl)) pa_nil))) pe_str) (pe_c D__law_run_text (hr.mono (by decide)) (pa_cons (pv 1) (pa_cons (pe_ix ix_tup (pe_ix ix_list (pv 10) (pv 7) (fun _ _ => rfl)) pe_int (fun _ _ => rfl)) pa_nil)))) pa_nil))))) (pss_cons (ps_expr (pe_bm PySem.F.plainAttrs_list PySem.F.slot_list_append PySem.F.type_list_append mt_append (pv 10) (pa_cons (pe_tup (pa_cons pe_str (pa_cons (pe_c D__law_plan (hr.mono (by decide)) (pa_cons (pv 0) (pa_cons (pv 1) pa_nil))) pa_nil))) pa_nil)))
    (pss_one (ps_expr (pe_bm PySem.F.plainAttrs_list PySem.F.slot_list_append PySem.F.type_list_append mt_append (pv 5) (pa_cons (pe_op fo_catS (pe_op fo_catS (pe_op fo_catS pe_str (pe_ix ix_tup (pe_ix ix_tup (pv 1) pe_int (fun _ _ => rfl)) (pv 7) (fun _ _ => rfl))) pe_str) (pe_c D__law_plan_text (hr.mono (by decide)) (pa_cons (pv 1) (pa_cons (pe_ix ix_tup (pe_ix ix_list (pv 10) (pv 7) (fun _ _ => rfl)) pe_int (fun _ _ => rfl)) pa_nil)))) pa_nil))))))))
    (pss_one (ps_retPair (pe_tup (pa_cons (pe_tup (pa_cons (pv 3) (pa_cons (pv 4) pa_nil))) (pa_cons (pe_callTy cr_tuple rfl G.tuple (by decide +kernel) (pa_cons (pv 6) pa_nil)) (pa_cons (pe_callTy cr_tuple rfl G.tuple (by decide +kernel) (pa_cons (pv 10) pa_nil)) pa_nil)))) (pv 5))))))))))), ?inst, fun cs Q' hg => ?body⟩
  case inst =>
    dsimp only [cxOf, Cx.nox, Cx.wish, List.map]
    infer_instance
  case body =>
    obtain ⟨kn, mv, rfl, hB, h⟩ := hg
    have h6 := hB.six
    have h8 := hB.eight
    have h1 := hB.one
    have z1 : 16777216 ≤ sizeLine := by decide
    have snoc : ∀ {ns : List Nat} {n : Nat}, (∀ x ∈ ns, x ≤ 10 ^ 30) → n ≤ 10 ^ 30 → ∀ x ∈ ns ++ [n], x ≤ 10 ^ 30 := fun {ns n} hb hn x hx => by
      rcases List.mem_append.mp hx with hx | hx
      · exact hb x hx
      · rw [List.mem_singleton.mp hx]; exact hn
    simp [and_assoc]
    refine ⟨by omega, ?_⟩
    refine compF_range1 (n := kn.length) (fun (i : Nat) acc s => ∃ ns : List Nat, acc = ns.map (fun n : Nat => PyData.int (n : Int)) ∧ ns.length = i ∧ (∀ n ∈ ns, n ≤ 10 ^ 30) ∧ s = _) (by omega) (fun _ _ _ _ => trivial) (fun i acc s ⟨ns, e, l, _⟩ => by rw [e, List.length_map]; omega) ⟨[], rfl, rfl, (fun _ z => nomatch z), rfl⟩ (fun i acc s hi ⟨ns, e, l, hb, es⟩ T hT => ?_) (fun acc s ⟨pr, e, lpr, hpr, es⟩ => ?_)
    · subst es
      simp [and_assoc]
      exact ⟨rfl, fun n hn => hT _ _ rfl ⟨ns ++ [n], by rw [e]; simp, by simp [l], snoc hb hn, rfl⟩⟩
    subst es e
    simp [and_assoc]
    refine compF_inv1 moveD (fun (i : Nat) acc s => ∃ ns : List Nat, acc = ns.map (fun n : Nat => PyData.int (n : Int)) ∧ ns.length = i ∧ (∀ n ∈ ns, n ≤ 10 ^ 30) ∧ s = _) mv (by omega) (fun _ _ _ _ => trivial) (fun i acc s ⟨ns, e, l, _⟩ => by rw [e, List.length_map]; omega) ⟨[], rfl, rfl, (fun _ z => nomatch z), rfl⟩ (fun i acc s m hm ⟨ns, e, l, hb, es⟩ T hT => ?_) (fun acc s ⟨lp, e, llp, hlp, es⟩ => ?_)
    · subst es
      simp [and_assoc]
      exact ⟨rfl, fun n hn => hT _ _ rfl ⟨ns ++ [n], by rw [e]; simp, by simp [l], snoc hb hn, rfl⟩⟩
    subst es e
    simp [and_assoc]
    refine compF_map (fun n : Nat => PyData.int (n : Int)) (fun n => PyData.str (numS n)) pr (by simp) (by omega) (fun n hnm T hT => ?_) ?_
    · simp [and_assoc]
      exact ⟨log_num (hpr n hnm), hT _ rfl rfl⟩
    have w1 : (Str.ofString "prices").length ≤ 20 := by decide +kernel
    have w2 : (Str.ofString "loop").length ≤ 20 := by decide +kernel
    refine ⟨by rw [List.length_map]; omega, _, strs_line _ _, line_sum w1 (by omega) hpr, ?_⟩
    simp [and_assoc]
    refine compF_map (fun n : Nat => PyData.int (n : Int)) (fun n => PyData.str (numS n)) lp (by simp) (by omega) (fun n hnm T hT => ?_) ?_
    · simp [and_assoc]
      exact ⟨log_num (hlp n hnm), hT _ rfl rfl⟩
    refine ⟨by rw [List.length_map]; omega, _, strs_line _ _, line_sum w2 (by omega) hlp, ?_⟩
    simp [and_assoc]
    intro v hv0 hv4
    obtain ⟨u, rfl⟩ := Int.eq_ofNat_of_zero_le hv0
    rw [Int.toNat_natCast]
    refine ⟨by omega, by omega, ?_⟩
    have bsp : Str.ofString " " = sp1 := rfl
    have bt : Str.ofString "top " = topS := rfl
    have bb : Str.ofString " by " = byS := rfl
    rw [bsp, bt, bb]
    have fl : ∀ (x : Str) (ns : List Nat), Txt.join sp1 (x :: ns.map numS) = lineN x ns := fun _ _ => rfl
    rw [fl, fl]
    have lt : topS.length = 4 := by decide +kernel
    have lb : byS.length = 4 := by decide +kernel
    have l1 : sp1.length = 1 := by decide +kernel
    have lm : (Str.ofString "most ").length = 5 := by decide +kernel
    have le : (Str.ofString "endless ").length = 8 := by decide +kernel
    refine forF_range (n := u) (fun (i : Nat) s => ∃ (rp : List (List Int × List Part)) (c7 c8 c9 : SC K), s = [.io (.x (drawsO K)), .f (.d (bkD kn mv)), .f (.d (.int kn.length)), .f (.d (nsD pr)), .f (.d (nsD lp)), .f (.l (.str (lineN (Str.ofString "prices") pr) :: .str (lineN (Str.ofString "loop") lp) :: rp.map fun t => .str (topT kn mv t))), .f (.l (rp.map topD)), c7, c8, c9, .e, .e, .e, .e] ∧ blS c7 = true ∧ blS c8 = true ∧ blS c9 = true ∧ rp.length ≤ i ∧ ∀ t ∈ rp, t.1.length = kn.length ∧ (∀ e ∈ t.1, okE e) ∧ PlOk mv.length 2 t.2 ∧ t.2.length ≤ 5) (fun _ _ _ => trivial) ⟨[], .e, .e, .e, rfl, rfl, rfl, rfl, Nat.zero_le _, fun t ht => nomatch ht⟩ (fun i s hi ⟨rp, c7, c8, c9, es, b7, b8, b9, hl, hrp⟩ N hN => ?_) (fun s ⟨rp, c7, c8, c9, es, b7, b8, b9, hl, hrp⟩ => ?_)
    · subst es
      simp [and_assoc, can_bl b7, can_bl b8]
      refine ⟨by omega, ?_⟩
      refine compF_range1 (n := kn.length) (fun (j : Nat) acc s => ∃ es : List Int, acc = es.map PyData.int ∧ es.length = j ∧ (∀ e ∈ es, okE e) ∧ s = _) (by omega) (fun _ _ _ _ => trivial) (fun j acc s ⟨ns, e, l, _⟩ => by rw [e, List.length_map]; omega) ⟨[], rfl, rfl, (fun _ z => nomatch z), rfl⟩ (fun j acc s hj ⟨ns, e, l, hb, es⟩ T hT => ?_) (fun acc s ⟨st, e, lst, hst, es⟩ => ?_)
      · subst es
        simp [and_assoc]
        refine ⟨rfl, fun n hn => ?_⟩
        simp [and_assoc]
        intro v2 h3 h4
        have fin : ∀ e : Int, okE e → T (.d (.int e)) [.io (.x (drawsO K)), .f (.d (bkD kn mv)), .f (.d (.int kn.length)), .f (.d (nsD pr)), .f (.d (nsD lp)), .f (.l (.str (lineN (Str.ofString "prices") pr) :: .str (lineN (Str.ofString "loop") lp) :: rp.map fun t => .str (topT kn mv t))), .f (.l (rp.map topD)), .f (.d (.int (i : Int))), c8, c9, .e, .e, .e, .f (.d (.int (j : Int)))] := fun e he => hT _ _ rfl ⟨ns ++ [e], by rw [‹acc = _›]; simp, by simp [l], fun x hx => by
          rcases List.mem_append.mp hx with hx | hx
          · exact hb x hx
          · rw [List.mem_singleton.mp hx]; exact he, rfl⟩
        rcases (by omega : v2 = 0 ∨ v2 = 1) with rfl | rfl
        · simp
          exact fin (-1) (.inl rfl)
        · simp
          exact fin n (.inr (by omega))
      subst es e
      simp [and_assoc, can_bl b8]
      refine ⟨kn, mv, rfl, hB, fun pl hpl hpl5 => ?_⟩
      simp [and_assoc, can_bl b9]
      refine ⟨by omega, kn, mv, st, rfl, hB, lst, hst, ?_⟩
      have hI := itsOk_of (kn := kn) (W := stW st) (by omega) hB.kindOk (stW_ok hst)
      have t1 := text_len (n := 6) hI (Nat.le_trans (its_len ..) h6)
      have t2 := (plan_bound hB hpl hpl5).2
      simp [and_assoc, Str.length_append, lt, lb]
      refine ⟨by omega, by omega, kn, mv, pl, rfl, hB, hpl, hpl5, ?_⟩
      simp [and_assoc, Str.length_append, lt, lb]
      refine ⟨by omega, by omega, hN _ ⟨rp ++ [(st, pl)], .f (.d (.int (i : Int))), .f (.d (iD st)), .f (.d (planD pl)), by simp [topD, topT], rfl, rfl, rfl, by simp; omega, fun t ht => ?_⟩⟩
      rcases List.mem_append.mp ht with ht | ht
      · exact hrp t ht
      · rw [List.mem_singleton.mp ht]; exact ⟨lst, hst, hpl, hpl5⟩
    · subst es
      simp [and_assoc]
      refine ⟨by omega, ?_⟩
      refine forF_range (n := kn.length) (fun (i : Nat) s => ∃ (an : List Ans) (c7 : SC K), s = [.io (.x (drawsO K)), .f (.d (bkD kn mv)), .f (.d (.int kn.length)), .f (.d (nsD pr)), .f (.d (nsD lp)), .f (.l (.str (lineN (Str.ofString "prices") pr) :: .str (lineN (Str.ofString "loop") lp) :: (rp.map (fun t => PyData.str (topT kn mv t)) ++ (kn.zip an).map fun p => PyData.str (ansT mv p.1 p.2)))), .f (.l (rp.map topD)), c7, c8, c9, .f (.l (an.map ansD)), .e, .e, .e] ∧ blS c7 = true ∧ an.length = i ∧ ∀ a ∈ an, AnOk mv.length a) (fun _ _ _ => trivial) ⟨[], c7, by simp, b7, rfl, fun a ha => nomatch ha⟩ (fun i s hi ⟨an, c7, es, b7, hl, han⟩ N hN => ?_) (fun s ⟨an, c7, es, b7, hl, han⟩ => ?_)
      · subst es
        have ek : kn[i]? = some (kn[i]'hi) := List.getElem?_eq_getElem hi
        obtain ⟨k, hk⟩ : ∃ k, k = kn[i]'hi := ⟨_, rfl⟩
        rw [← hk] at ek
        have hkk := (hB.kindOk k (List.mem_of_getElem? ek)).len
        have r1 : atI (kn.map PyData.str) (i : Int) = some (.str k) := atI_nat (by rw [List.getElem?_map, ek]; rfl)
        have r2 : ∀ D : PyData, atI (an.map ansD ++ [D]) (i : Int) = some D := fun D => atI_nat (by rw [List.getElem?_append_right (by rw [List.length_map]; omega), List.length_map, hl, Nat.sub_self]; rfl)
        have fin : ∀ a : Ans, AnOk mv.length a → N [.io (.x (drawsO K)), .f (.d (bkD kn mv)), .f (.d (.int kn.length)), .f (.d (nsD pr)), .f (.d (nsD lp)), .f (.l (.str (lineN (Str.ofString "prices") pr) :: .str (lineN (Str.ofString "loop") lp) :: (rp.map (fun t => PyData.str (topT kn mv t)) ++ ((kn.zip an).map (fun p => PyData.str (ansT mv p.1 p.2)) ++ [PyData.str (ansT mv k a)])))), .f (.l (rp.map topD)), .f (.d (.int (i : Int))), c8, c9, .f (.l (an.map ansD ++ [ansD a])), .e, .e, .e] := fun a ha => hN _ ⟨an ++ [a], .f (.d (.int (i : Int))), by rw [zip_snoc (by rw [hl]; exact ek)]; simp, rfl, by simp [hl], fun x hx => by
          rcases List.mem_append.mp hx with hx | hx
          · exact han x hx
          · rw [List.mem_singleton.mp hx]; exact ha⟩
        have hln : (an.map ansD).length = i := by rw [List.length_map, hl]
        have hzl : (kn.zip an).length ≤ 6 := by rw [List.length_zip]; omega
        obtain ⟨AD, eAD⟩ : ∃ AD, AD = an.map ansD := ⟨_, rfl⟩
        obtain ⟨ZD, eZD⟩ : ∃ ZD, ZD = (kn.zip an).map (fun p => PyData.str (ansT mv p.1 p.2)) := ⟨_, rfl⟩
        have hZ : ZD.length ≤ 6 := by rw [eZD, List.length_map]; exact hzl
        rw [← eAD] at r2 hln
        rw [← eAD, ← eZD] at fin
        rw [← eAD, ← eZD]
        simp (maxSteps := 3000000) [and_assoc, can_bl b7]
        intro v2 h3 h4
        rcases (by omega : v2 = 0 ∨ v2 = 1) with rfl | rfl
        · simp [and_assoc]
          refine ⟨rfl, fun n hn => ?_⟩
          simp [and_assoc]
          refine ⟨⟨by decide, by decide, by decide⟩, mv.length, 2, 10 ^ 9, rfl, by decide, by decide, by decide, fun r hr => ?_⟩
          have hr3 := grn_mono (b := 10 ^ 30) (by decide) hr
          have t1 := rn_len2 hB hr3
          have t2 := numS_len hn
          simp [and_assoc, r1, r2, bookD, Str.length_append, lm, lb, l1]
          rw [show Str.ofString (Int.repr (n : Int)) = numS n from rfl]
          refine ⟨by omega, by omega, by omega, log_num hn, by omega, by omega, kn, mv, r, 2, rfl, hB, by decide, by decide, hr3, ?_⟩
          simp [and_assoc, Str.length_append, lm, lb, l1]
          exact ⟨by omega, by omega, fin (.most n r) ⟨hn, hr3⟩⟩
        · simp [and_assoc]
          refine ⟨kn, mv, rfl, hB, fun pl hpl hpl5 => ?_⟩
          have t2 := (plan_bound hB hpl hpl5).2
          simp [and_assoc, r1, r2, bookD, Str.length_append, le, lb, l1]
          refine ⟨by omega, by omega, by omega, kn, mv, pl, rfl, hB, hpl, hpl5, ?_⟩
          simp [and_assoc, Str.length_append, le, lb, l1]
          refine ⟨by omega, ?_, fin (.fin pl) ⟨hpl, hpl5⟩⟩
          omega
      · subst es
        simp [and_assoc, can_bl b8]
        have q := h ⟨pr, lp, rp, an⟩ ⟨lpr, hpr, llp, hlp, by show rp.length ≤ 3; omega, hrp, hl, han⟩
        have e : (vdLines kn mv ⟨pr, lp, rp, an⟩).map PyData.str = PyData.str (lineN (Str.ofString "prices") pr) :: PyData.str (lineN (Str.ofString "loop") lp) :: (rp.map (fun t => PyData.str (topT kn mv t)) ++ (kn.zip an).map fun p => PyData.str (ansT mv p.1 p.2)) := by
          unfold vdLines
          rw [List.map_cons, List.map_cons, List.map_append, List.map_map, List.map_map]
          rfl
        rw [e] at q
        exact q

end
end Fw


namespace Mint
open PySem PySem.Spec PyProof.Rows L2
open PySem.Builtin.Str (subAt strSub occurrences partsBetween strKind)
/-! ### the first place of a text in another one -/
theorem occ_full {s y : Str} {limit : Nat} : ∀ (k m : Nat) (found : Array Nat) (free : Nat), limit ≤ found.size → (forIn (List.range' m k) (found, free) (StrLaws.occBody s y s.length limit)).run.fst.toList = found.toList
  | 0, m, found, free, h => rfl
  | k + 1, m, found, free, h => by
    rw [List.range'_succ, List.forIn_cons]
    have e : StrLaws.occBody s y s.length limit m (found, free) = pure (ForInStep.yield (found, free)) := by
      unfold StrLaws.occBody
      rw [if_neg (fun z => absurd z.1.1.1 (Nat.not_lt.mpr h))]
    rw [e]
    exact occ_full k (m + 1) found free h
theorem occ_first {s y : Str} {p : Nat} (hp : p + y.length ≤ s.length) (hs : subAt s y p = true) : ∀ (k m : Nat), m + k = s.length + 1 → m ≤ p → (∀ i, m ≤ i → i < p → ¬ subAt s y i = true) → (forIn (List.range' m k) ((#[] : Array Nat), 0) (StrLaws.occBody s y s.length 1)).run.fst.toList = [p]
  | 0, m, hk, hm, _ => by omega
  | k + 1, m, hk, hm, hon => by
    rw [List.range'_succ, List.forIn_cons]
    by_cases hc : m = p
    · subst hc
      have e : StrLaws.occBody s y s.length 1 m (#[], 0) = pure (ForInStep.yield ((#[] : Array Nat).push m, m + y.length)) := by
        unfold StrLaws.occBody
        rw [if_pos ⟨⟨⟨by decide, Nat.zero_le _⟩, hp⟩, hs⟩]
      rw [e]
      have := occ_full (s := s) (y := y) (limit := 1) k (m + 1) (#[].push m) (m + y.length) (by simp)
      have e2 : ((#[] : Array Nat).push m).toList = [m] := rfl
      rw [e2] at this
      exact this
    · have e : StrLaws.occBody s y s.length 1 m (#[], 0) = pure (ForInStep.yield ((#[] : Array Nat), 0)) := by
        unfold StrLaws.occBody
        rw [if_neg (fun z => hon m (Nat.le_refl _) (by omega) z.2)]
      rw [e]
      exact occ_first hp hs k (m + 1) (by omega) (by omega) fun i h1 h2 => hon i (by omega) h2
theorem occ_one {s y : Str} {p : Nat} (hp : p + y.length ≤ s.length) (hs : subAt s y p = true) (hon : ∀ i, i < p → ¬ subAt s y i = true) : occurrences s y 0 s.length 1 = [p] := by
  rw [StrLaws.occ_eq]
  have := occ_first hp hs (s.length + 1 - 0) 0 (by omega) (Nat.zero_le _) fun i _ h => hon i h
  simpa using this
/-- cut at the first place: no sign of a is y's first one -/
theorem partition_first {a y b : Str} {c : Nat} (ho : (sgn y)[0]? = some c) (na : c ∉ sgn a) : Txt.partition (a ++ y ++ b) y = (a, y, b) := by
  have hoy : 0 < y.length := by
    have := (List.getElem?_eq_some_iff.mp ho).1
    rw [sgn_len] at this
    exact this
  have hocc : occurrences (a ++ y ++ b) y 0 (a ++ y ++ b).length 1 = [a.length] := by
    refine occ_one (by rw [Str.length_append, Str.length_append]; omega) (subAt_mid a y b) fun i hi hs => ?_
    have := subAt_get (j := 0) hs hoy
    rw [ho, Nat.add_zero, sgn_app, sgn_app, List.append_assoc, List.getElem?_append_left (by rw [sgn_len]; exact hi)] at this
    exact na (List.mem_of_getElem? this)
  unfold Txt.partition
  rw [hocc]
  have e1 : strSub (a ++ y ++ b) 0 a.length = a := by
    have := sub_left a (y ++ b)
    rw [show a ++ (y ++ b) = a ++ y ++ b from sgn_ext (by rw [sgn_app, sgn_app, sgn_app, sgn_app, List.append_assoc])] at this
    exact this
  have e2 : strSub (a ++ y ++ b) (a.length + y.length) (a ++ y ++ b).length = b := by
    have := sub_right (a ++ y) b
    rw [Str.length_append] at this
    exact this
  show (strSub (a ++ y ++ b) 0 a.length, y, strSub (a ++ y ++ b) (a.length + y.length) (a ++ y ++ b).length) = _
  rw [e1, e2]
end Mint


namespace Fw
open PySem PySem.Spec PyProof.Rows L2 GxR Gx Gy RZ Mint
open PySem.Builtin.Str (subAt strSub occurrences partsBetween strKind)
/-! ### plans and numbers read -/
theorem wd_no (b : Bool) : 32 ∉ sgn (wdS b) := by cases b <;> decide +kernel
theorem part_cut (mv : List Mv) (p : Part) : Txt.partition (partT mv p) sp1 = (wdS p.1, sp1, rnT mv p.2) := by
  unfold partT
  exact partition_first (c := 32) (by decide +kernel) (wd_no p.1)
def g_read_part {K : PySem.W.Frag} : GF K := fun cs Q => ∃ (kn : List Str) (mv : List Mv) (p : Part), cs = [.d (bkD kn mv), .d (.str (partT mv p))] ∧ GoodBk kn mv ∧ GRn mv.length tt3 2 p.2 ∧ p.2 ≠ [] ∧ Q (.d (partD p)) cs
def g_read_plan {K : PySem.W.Frag} : GF K := fun cs Q => ∃ (kn : List Str) (mv : List Mv) (pl : List Part), cs = [.d (bkD kn mv), .d (.str (planT mv pl))] ∧ GoodBk kn mv ∧ PlOk mv.length 2 pl ∧ pl.length ≤ 5 ∧ Q (.d (planD pl)) cs
theorem jn_no {xs : List Str} (h : ∀ x ∈ xs, 62 ∉ sgn x) : 62 ∉ sgn (jn xs) := fun hc => by
  unfold jn at hc
  split at hc
  · exact absurd hc (by decide +kernel)
  · rcases join_mem hc with hc | ⟨x, h1, h2⟩
    · exact absurd hc (by decide +kernel)
    · exact h x h1 h2
theorem st_no {kn : List Str} {mv : List Mv} (h : GoodBk kn mv) : ∀ (d : Nat) (s : RSt), GSt mv.length tt3 d s → 62 ∉ sgn (stT mv s)
  | 0, s, hs => by
    obtain ⟨m, rfl, hm⟩ := hs
    obtain ⟨x, _, e, k⟩ := nm_ok h hm
    unfold stT
    rw [e]
    exact k.no (by omega)
  | d + 1, s, hs => by
    rcases hs with ⟨m, rfl, hm⟩ | ⟨k, r, rfl, h1, h2, h3, h4, h5⟩
    · obtain ⟨x, _, e, k⟩ := nm_ok h hm
      unfold stT
      rw [e]
      exact k.no (by omega)
    · intro hc
      unfold stT at hc
      rw [sgn_app, sgn_app, sgn_app] at hc
      rcases List.mem_append.mp hc with hc | hc
      · rcases List.mem_append.mp hc with hc | hc
        · rcases List.mem_append.mp hc with hc | hc
          · have := numS_in hc
            omega
          · exact absurd hc (by decide +kernel)
        · exact jn_no (fun x hx => by
            rw [stTs_map] at hx
            obtain ⟨s, hs, rfl⟩ := List.mem_map.mp hx
            exact st_no h d s (h5 s hs)) hc
      · exact absurd hc (by decide +kernel)
theorem run_no {kn : List Str} {mv : List Mv} (h : GoodBk kn mv) {r : List RSt} (hr : GRn mv.length tt3 2 r) : 62 ∉ sgn (rnT mv r) := jn_no fun x hx => by
  rw [stTs_map] at hx
  obtain ⟨s, hs, rfl⟩ := List.mem_map.mp hx
  exact st_no h 2 s (hr.all s hs)
theorem part_no {kn : List Str} {mv : List Mv} (hB : GoodBk kn mv) {p : Part} (h : GRn mv.length tt3 2 p.2) : 62 ∉ sgn (partT mv p) := fun hc => by
  unfold partT at hc
  rw [sgn_app, sgn_app] at hc
  rcases List.mem_append.mp hc with hc | hc
  · rcases List.mem_append.mp hc with hc | hc
    · have : ∀ b, 62 ∉ sgn (wdS b) := by decide +kernel
      exact this _ hc
    · exact absurd hc (by decide +kernel)
  · exact run_no hB h hc
theorem plan_split {kn : List Str} {mv : List Mv} (hB : GoodBk kn mv) {pl : List Part} (h : PlOk mv.length 2 pl) (hne : pl ≠ []) : Txt.split (planT mv pl) gtS = pl.map (partT mv) := by
  rw [← planT_join hne, txt_join]
  have e : (sgn gtS)[1]? = some 62 := by decide +kernel
  refine split_is (o := 1) (c := 62) (by simpa using hne) (by decide +kernel) e (once_of e (by decide +kernel)) fun x hx => ?_
  obtain ⟨p, hp, rfl⟩ := List.mem_map.mp hx
  exact part_no hB (h.g p hp).1
theorem plan_ne {mv : List Mv} {pl : List Part} (hne : pl ≠ []) : planT mv pl ≠ Str.ofString "nothing" := fun z => by
  have : (32 : Nat) ∈ sgn (planT mv pl) := by
    rw [← planT_join hne, txt_join]
    cases pl with
    | nil => exact absurd rfl hne
    | cons p r =>
      refine in_join (x := partT mv p) List.mem_cons_self ?_
      unfold partT
      rw [sgn_app, sgn_app, sp1_sgn]
      simp
  rw [z] at this
  exact absurd this (by decide +kernel)
section
variable {P : Program} {w : World} {K : PySem.W.Frag} {mg : Str → Option Value} {base : Heap} {f T : Addr} {fd : FuncData} {Ps : List Addr}
abbrev sread_part : Stmt := top 39
theorem scread_part : FnScope ["book", "text", "word", "_", "run_text", "run"] ["book", "text"] (defScope sread_part) := ⟨rfl, rfl, rfl, by decide +kernel, rfl, by decide +kernel, by decide +kernel⟩
theorem ok_read_part (F : Fun K "read_part" "read_part" sread_part f fd) (G : Glb mg)  (D_read_run : Def P w K mg base "read_run" (14) ["book", "text"] (spA K Ps (g_read_run 5))) : FnOk P w K mg base CX0 (15) f fd ["book", "text"] (spA K Ps g_read_part) := by
  refine ok_fn F scread_part (fun cs Q' h => ?_) (by decide) fun cdv A outer s H E hr => ?_
  · obtain ⟨kn, mv, p, rfl, hB, hp, hne, h⟩ := h
    rfl
  have nd := scread_part.nd
  refine ⟨_, ?fs, (pss_cons (ps_asg (fe_partition (pv 1) pe_str) (pg_tup (n := 3) (by rfl) (pgs_cons (pg_name (i := 2) nd rfl (Or.inl rfl)) (pgs_cons (pg_name (i := 3) nd rfl (Or.inl rfl)) (pgs_cons (pg_name (i := 4) nd rfl (Or.inl rfl)) pgs_nil)))))
    (pss_cons (ps_set (i := 5) nd rfl (Or.inl rfl) (pe_c D_read_run (hr.mono (by decide)) (pa_cons (pv 0) (pa_cons (pv 4) pa_nil))))
    (pss_cons (ps_if (PW.pt (pw_or (pt_cmpR op_notIn_seq (pv 2) (pe_tup (pa_cons pe_str (pa_cons pe_str pa_nil))) rfl) (pw_or1 (pt_cmpR (op_eqD hr.units) (pv 5) (pe_tup pa_nil) (nomark _))))) (pss_one L2.ps_never) pss_nil)
    (pss_one (ps_ret (pe_tup (pa_cons (pv 2) (pa_cons (pv 5) pa_nil)))))))), ?inst, fun cs Q' hg => ?body⟩
  case inst =>
    dsimp only [cxOf, Cx.nox, Cx.wish, List.map]
    infer_instance
  case body =>
    obtain ⟨kn, mv, p, rfl, hB, hp, hne, h⟩ := hg
    have z1 : 16777216 ≤ sizeLine := by decide
    have e1 := part_cut mv p
    have l1 : (partT mv p).length ≤ 3000 := part_len (pl := [p]) hB ⟨by simp, fun q hq => by rw [List.mem_singleton.mp hq]; exact ⟨hp, hne⟩⟩ p List.mem_cons_self
    have a1 : ¬ sp1.length = 0 := by decide +kernel
    have sr := shaped_rn hp (by decide)
    have hE : p.2.isEmpty = false := by
      cases hh : p.2 with
      | nil => exact absurd hh hne
      | cons x r => rfl
    simp [and_assoc, e1]
    refine ⟨a1, by omega, kn, mv, p.2, 2, rfl, hB, by decide, by decide, hp, ?_⟩
    simp [and_assoc, sr, shaped_nil, eqv_rn, hE]
    have hw : ∀ b, wdS b ∈ [Str.ofString "run", Str.ofString "pump"] := by decide +kernel
    exact ⟨_, strsOf_map (ns := [Str.ofString "run", Str.ofString "pump"]), hw _, h⟩
abbrev sread_plan : Stmt := top 38
theorem scread_plan : FnScope ["book", "text", "part"] ["book", "text"] (defScope sread_plan) := ⟨rfl, rfl, rfl, by decide +kernel, rfl, by decide +kernel, by decide +kernel⟩
theorem ok_read_plan (F : Fun K "read_plan" "read_plan" sread_plan f fd) (G : Glb mg)  (D_read_part : Def P w K mg base "read_part" (15) ["book", "text"] (spA K Ps g_read_part)) : FnOk P w K mg base CX0 (16) f fd ["book", "text"] (spA K Ps g_read_plan) := by
  refine ok_fn F scread_plan (fun cs Q' h => ?_) (by decide) fun cdv A outer s H E hr => ?_
  · obtain ⟨kn, mv, pl, rfl, hB, hp, hn, h⟩ := h
    rfl
  have nd := scread_plan.nd
  refine ⟨_, ?fs, (pss_cons (ps_if (pt_cmpR op_eq (pv 1) pe_str (nomark _)) (pss_one (ps_ret (pe_tup pa_nil))) pss_nil)
    (pss_one (ps_ret (pe_callTy cr_tuple rfl G.tuple (by decide +kernel) (pa_cons (pe_lc (own := [("part", 2)]) (g := (gName 2)) (te := (tCall (spA K Ps g_read_part) [] E0 (tCons (tVar 0) (tCons (tVar 2) tNil)))) (tt := tYes) rfl nd (pi_list (fe_split (pv 1) pe_str)) (blkOk_by (own := [("part", 2)]) (N := ["book", "text", "part"]) (sc := defScope sread_plan) (by decide +kernel)) (fun _ _ _ _ _ => (pg_name (i := 2) nd rfl (Or.inl rfl))) (fun _ _ _ _ _ => pts_nil) (fun _ _ _ _ _ => (pe_c D_read_part (hr.mono (by decide)) (pa_cons (pv 0) (pa_cons (pv 2) pa_nil))))) pa_nil))))), ?inst, fun cs Q' hg => ?body⟩
  case inst =>
    dsimp only [cxOf, Cx.nox, Cx.wish, List.map]
    infer_instance
  case body =>
    obtain ⟨kn, mv, pl, rfl, hB, hp, hn, h⟩ := hg
    have z1 : 16777216 ≤ sizeLine := by decide
    have l1 := (plan_bound hB hp hn).2
    cases pl with
    | nil =>
      have e : planT mv [] = Str.ofString "nothing" := rfl
      simp [and_assoc, e]
      exact h
    | cons p0 r0 =>
      obtain ⟨pl, er⟩ : ∃ pl, pl = p0 :: r0 := ⟨_, rfl⟩
      have hne : pl ≠ [] := by rw [er]; simp
      rw [← er] at h hp hn l1 ⊢
      have e1 := plan_ne (mv := mv) hne
      have e2 := plan_split hB hp hne
      have a1 : ¬ gtS.length = 0 := by decide +kernel
      simp [and_assoc, e1, e2]
      refine ⟨a1, by omega, ?_⟩
      refine compF_map (PyData.str ∘ partT mv) partD pl (by simp) (by omega) (fun p hpm T hT => ?_) ?_
      · have hg := hp.g p hpm
        simp [and_assoc]
        refine ⟨kn, mv, p, rfl, hB, hg.1, hg.2, ?_⟩
        simp
        exact hT _ rfl rfl
      · exact h
def g_read_numbers {K : PySem.W.Frag} : GF K := fun cs Q => ∃ (w : Str) (ns : List Nat), cs = [.d (.str w), .d (.int ns.length), .d (.str (lineN w ns))] ∧ w.length ≤ 20 ∧ 32 ∉ sgn w ∧ ns.length ≤ 20 ∧ (∀ n ∈ ns, n ≤ 10 ^ 30) ∧ Q (.d (nsD ns)) cs
theorem line_split {w : Str} {ns : List Nat} (h : 32 ∉ sgn w) : Txt.split (lineN w ns) sp1 = w :: ns.map numS := by
  unfold lineN
  rw [txt_join]
  have e : (sgn sp1)[0]? = some 32 := by decide +kernel
  refine split_is (o := 0) (c := 32) (by simp) (by decide +kernel) e (once_of e (by decide +kernel)) fun x hx => ?_
  rcases List.mem_cons.mp hx with rfl | hx
  · exact h
  · obtain ⟨n, _, rfl⟩ := List.mem_map.mp hx
    exact fun z => by have := numS_in z; omega
theorem nums_none (ns : List Nat) : ((ns.map fun n => PyData.int (n : Nat)).any fun z => PyData.eqv z .none) = false := by
  rw [List.any_eq_false]
  intro z hz
  obtain ⟨p, _, rfl⟩ := List.mem_map.mp hz
  simp [PyData.eqv]
abbrev sread_numbers : Stmt := top 43
theorem scread_numbers : FnScope ["word", "many", "line", "words", "numbers", "other"] ["word", "many", "line"] (defScope sread_numbers) := ⟨rfl, rfl, rfl, by decide +kernel, rfl, by decide +kernel, by decide +kernel⟩
theorem ok_read_numbers (F : Fun K "read_numbers" "read_numbers" sread_numbers f fd) (G : Glb mg) (hGr : ∃ t, mg "GREATEST_NUMBER" = some (.int (10 ^ 40) t)) (D_read_number : Def P w K mg base "read_number" (2) ["word", "most"] (spA K Ps g_read_number)) : FnOk P w K mg base CX0 (3) f fd ["word", "many", "line"] (spA K Ps g_read_numbers) := by
  obtain ⟨t1, cG⟩ := hGr
  refine ok_fn F scread_numbers (fun cs Q' h => ?_) (by decide) fun cdv A outer s H E hr => ?_
  · obtain ⟨w, ns, rfl, hw, h32, hn, hb, h⟩ := h
    rfl
  have nd := scread_numbers.nd
  refine ⟨_, ?fs, (pss_cons (ps_set (i := 3) nd rfl (Or.inl rfl) (fe_split (pv 2) pe_str))
    (pss_cons (ps_setLc (i := 4) (own := [("other", 5)]) (g := (gName 5)) (te := (tCall (spA K Ps g_read_number) [] E0 (tCons (tVar 5) (tCons (tC (.int (10 ^ 40))) tNil)))) (tt := tYes) rfl nd rfl rfl (sw_true rfl rfl rfl (by decide +kernel)) (pi_list (pe_slice sl_list (pv 3) (po_some pe_int) po_none)) (blkOk_by (own := [("other", 5)]) (N := ["word", "many", "line", "words", "numbers", "other"]) (sc := defScope sread_numbers) (by decide +kernel)) (fun _ _ _ _ _ => (pg_name (i := 5) nd rfl (Or.inl rfl))) (fun _ _ _ _ _ => pts_nil) (fun _ _ _ _ _ => (pe_c D_read_number (hr.mono (by decide)) (pa_cons (pv 5) (pa_cons (pe_gI cG) pa_nil)))))
    (pss_cons (ps_if (PW.pt (pw_or (pt_cmpR op_ne (pe_ix ix_list (pv 3) pe_int (fun _ _ => rfl)) (pv 0) (nomark _)) (pw_or (pt_cmpR op_ne (pe_callB cr_len rfl G.len PySem.boot_len (pa_cons (pv 4) pa_nil)) (pv 1) (nomark _)) (pw_or1 (pt_cmpR (fo_inX (units65F hr)) pe_non (pv 4) rfl))))) (pss_one L2.ps_never) pss_nil)
    (pss_one (ps_ret (pe_callTy cr_tuple rfl G.tuple (by decide +kernel) (pa_cons (pv 4) pa_nil))))))), ?inst, fun cs Q' hg => ?body⟩
  case inst =>
    dsimp only [cxOf, Cx.nox, Cx.wish, List.map]
    infer_instance
  case body =>
    obtain ⟨w, ns, rfl, hw, h32, hn, hb, h⟩ := hg
    have z1 : 16777216 ≤ sizeLine := by decide
    have l1 := lineN_len hw hn hb
    have e1 := line_split (ns := ns) h32
    have a1 : ¬ sp1.length = 0 := by decide +kernel
    have e2 : cutF (PyData.str w :: ns.map (PyData.str ∘ numS)) (some 1) none = ns.map (PyData.str ∘ numS) := cut1
    simp [and_assoc, e1, e2]
    refine ⟨a1, by omega, ?_⟩
    refine compF_map (PyData.str ∘ numS) (fun n : Nat => PyData.int (n : Int)) ns (by simp) (by omega) (fun n hnm T hT => ?_) ?_
    · have hb1 := hb n hnm
      have l2 := numS_len hb1
      simp [and_assoc]
      refine ⟨numS n, 10 ^ 40, rfl, by decide, by omega, ?_⟩
      rw [readN_num (Nat.le_trans hb1 (by decide))]
      simp [vD]
      exact hT _ rfl rfl
    · have s1 : SeqAt.shaped (.list (ns.map fun n : Nat => PyData.int (n : Int))) = true ∧ SeqAt.shaped (.tuple (ns.map fun n : Nat => PyData.int (n : Int))) = true := by
        have := shaped_ints (ns.map fun n : Nat => (n : Int))
        rw [List.map_map] at this
        exact this
      have s0 : SeqAt.shaped .none = true := by decide +kernel
      have e3 := nums_none ns
      obtain ⟨D, eD⟩ : ∃ D, D = ns.map fun n : Nat => PyData.int (n : Int) := ⟨_, rfl⟩
      have hD : D.length = ns.length := by rw [eD, List.length_map]
      unfold nsD at h
      rw [← eD] at s1 e3 h ⊢
      simp only [List.any_eq_false] at e3
      simp [and_assoc, s1, s0, hD]
      exact ⟨fun x hx => by have := e3 x hx; simpa using this, h⟩
end
end Fw


namespace Fw
open PySem PySem.Spec PyProof.Rows L2 GxR Gx Gy RZ Mint
/-! ### how many tops -/
/-- the count of the lines from the third on that begin so -/
def g_tops_among {K : PySem.W.Frag} : GF K := fun cs Q => ∃ (ls : List Str) (n : Nat), cs = [.l (ls.map PyData.str)] ∧ ls.length ≤ 1000 ∧ 2 + n ≤ ls.length ∧ (∀ (i : Nat) x, i < n → ls[2 + i]? = some x → Txt.startswith x topS = true) ∧ (∀ x, ls[2 + n]? = some x → Txt.startswith x topS = false) ∧ Q (.d (.int (n : Nat))) cs
section
variable {P : Program} {w : World} {K : PySem.W.Frag} {mg : Str → Option Value} {base : Heap} {f T : Addr} {fd : FuncData} {Ps : List Addr}
abbrev stops_among : Stmt := top 41
theorem sctops_among : FnScope ["lines", "at"] ["lines"] (defScope stops_among) := ⟨rfl, rfl, rfl, by decide +kernel, rfl, by decide +kernel, by decide +kernel⟩
theorem ok_tops_among (F : Fun K "tops_among" "tops_among" stops_among f fd) (G : Glb mg) (hTop : ∃ t, mg "TOP" = some (.str topS t))  : FnOk P w K mg base CX0 (1) f fd ["lines"] (spA K Ps g_tops_among) := by
  obtain ⟨t1, cTop⟩ := hTop
  refine ok_fn F sctops_among (fun cs Q' h => ?_) (by decide) fun cdv A outer s H E hr => ?_
  · obtain ⟨ls, n, rfl, hl, hn, h1, h2, h⟩ := h
    rfl
  have nd := sctops_among.nd
  refine ⟨_, ?fs, (pss_cons (ps_set (i := 1) nd rfl (Or.inl rfl) pe_int)
    (pss_cons (ps_while PassesOwn.never (PW.pt (pw_and (pt_cmpR op_lt (pv 1) (pe_callB cr_len rfl G.len PySem.boot_len (pa_cons (pv 0) pa_nil)) (nomark _)) (pw_and1 (pt_val (fe_startswith (pe_ix ix_list (pv 0) (pv 1) (fun _ _ => rfl)) (pe_gS cTop)))))) (pss_one (ps_aug (i := 1) nd rfl (Or.inl rfl) pe_int ip_add)))
    (pss_one (ps_ret (pe_op op_sub (pv 1) pe_int))))), ?inst, fun cs Q' hg => ?body⟩
  case inst =>
    dsimp only [cxOf, Cx.nox, Cx.wish, List.map]
    infer_instance
  case body =>
    obtain ⟨ls, n, rfl, hl, hn, h1, h2, h⟩ := hg
    simp [and_assoc]
    refine wh_intro (fun m s => ∃ i : Nat, i ≤ n ∧ m = n - i ∧ s = [.io (.l (ls.map PyData.str)), .f (.d (.int (2 + i : Nat)))]) ⟨0, Nat.zero_le _, rfl, rfl⟩ fun m s ⟨i, hi, hm, es⟩ => ?_
    subst es
    by_cases hin : i < n
    · have e1 : ls[2 + i]? = some (ls[2 + i]'(by omega)) := List.getElem?_eq_getElem (by omega)
      have r1 : atI (ls.map PyData.str) ((2 + i : Nat) : Int) = some (.str (ls[2 + i]'(by omega))) := atI_nat (by rw [List.getElem?_map, e1]; rfl)
      have hs := h1 i _ hin e1
      obtain ⟨x, ex⟩ : ∃ x, x = ls[2 + i]'(by omega) := ⟨_, rfl⟩
      rw [← ex] at hs r1
      have hlt : (2 : Int) + (i : Int) < (ls.length : Int) := by omega
      simp [and_assoc] at r1
      simp [and_assoc, r1, hs, hlt]
      refine ⟨fun s' => s' = [.io (.l (ls.map PyData.str)), .f (.d (.int (2 + ((i + 1 : Nat) : Int))))], fun s' e => ⟨n - (i + 1), by omega, i + 1, by omega, rfl, by rw [e]⟩, ?_⟩
      rw [show (2 : Int) + (i : Int) + 1 = 2 + ((i + 1 : Nat) : Int) by omega]
    · have ei : i = n := by omega
      subst ei
      have hsub : (2 : Int) + (i : Int) - 2 = (i : Int) := by omega
      by_cases hend : 2 + i < ls.length
      · have e1 : ls[2 + i]? = some (ls[2 + i]'hend) := List.getElem?_eq_getElem hend
        have r1 : atI (ls.map PyData.str) ((2 + i : Nat) : Int) = some (.str (ls[2 + i]'hend)) := atI_nat (by rw [List.getElem?_map, e1]; rfl)
        have hs := h2 _ e1
        obtain ⟨x, ex⟩ : ∃ x, x = ls[2 + i]'hend := ⟨_, rfl⟩
        rw [← ex] at hs r1
        have hlt : (2 : Int) + (i : Int) < (ls.length : Int) := by omega
        simp [and_assoc] at r1
        simp [and_assoc, r1, hs, hlt, hsub]
        exact h
      · have hlt : ¬ (2 : Int) + (i : Int) < (ls.length : Int) := by omega
        simp [and_assoc, hlt, hsub]
        exact h
end
end Fw


namespace Fw
open PySem PySem.Spec PyProof.Rows L2 GxR Gx Gy RZ Mint
open PySem.Builtin.Str (subAt strSub occurrences partsBetween strKind)
/-! ### a line cut at its first ` by ` -/
theorem partition_at {a y b : Str} (hon : ∀ i, i < a.length → ¬ subAt (a ++ y ++ b) y i = true) : Txt.partition (a ++ y ++ b) y = (a, y, b) := by
  have hocc : occurrences (a ++ y ++ b) y 0 (a ++ y ++ b).length 1 = [a.length] :=
    occ_one (by rw [Str.length_append, Str.length_append]; omega) (subAt_mid a y b) hon
  unfold Txt.partition
  rw [hocc]
  have e1 : strSub (a ++ y ++ b) 0 a.length = a := by
    have := sub_left a (y ++ b)
    rw [show a ++ (y ++ b) = a ++ y ++ b from sgn_ext (by rw [sgn_app, sgn_app, sgn_app, sgn_app, List.append_assoc])] at this
    exact this
  have e2 : strSub (a ++ y ++ b) (a.length + y.length) (a ++ y ++ b).length = b := by
    have := sub_right (a ++ y) b
    rw [Str.length_append] at this
    exact this
  show (strSub (a ++ y ++ b) 0 a.length, y, strSub (a ++ y ++ b) (a.length + y.length) (a ++ y ++ b).length) = _
  rw [e1, e2]
/-- nowhere a y with a blank behind it -/
def ny : List Nat → Bool
  | a :: b :: r => !(a == 121 && b == 32) && ny (b :: r)
  | _ => true
theorem ny_no : ∀ {l : List Nat} {i : Nat}, ny l = true → l[i]? = some 121 → l[i + 1]? ≠ some 32
  | [], i, _, h => by simp at h
  | [a], i, _, h => by simp
  | a :: b :: r, 0, h, h1 => by
    intro h2
    simp at h1 h2
    subst h1 h2
    simp [ny] at h
  | a :: b :: r, i + 1, h, h1 => by
    rw [ny, Bool.and_eq_true] at h
    have := ny_no (l := b :: r) (i := i) h.2 (by simpa using h1)
    simpa using this
theorem ny32 (r : List Nat) : ny (32 :: r) = ny r := by
  cases r with
  | nil => rfl
  | cons a r => rw [ny]; simp
theorem ny_tok : ∀ {t r : List Nat}, 32 ∉ t → (∀ z, t.getLast? = some z → z ≠ 121) → ny (t ++ 32 :: r) = ny r
  | [], r, _, _ => ny32 r
  | [x], r, _, hl => by
    have := hl x rfl
    show ny (x :: 32 :: r) = _
    rw [ny, ny32]
    simp [this]
  | x :: y :: t, r, h, hl => by
    have ih := ny_tok (t := y :: t) (r := r) (fun z => h (List.mem_cons_of_mem _ z)) (fun z hz => hl z (by rw [List.getLast?_cons_cons]; exact hz))
    have hy : y ≠ 32 := fun z => h (by rw [z]; simp)
    show ny (x :: y :: (t ++ 32 :: r)) = _
    rw [ny]
    rw [show y :: (t ++ 32 :: r) = y :: t ++ 32 :: r from rfl, ih]
    simp [hy]
theorem by_cut {a b : Str} (h : ny (sgn a ++ [32]) = true) : Txt.partition (a ++ byS ++ b) byS = (a, byS, b) := by
  refine partition_at fun i hi hs => ?_
  have es : sgn byS = [32, 98, 121, 32] := by decide +kernel
  have ly : byS.length = 4 := by decide +kernel
  have g : ∀ j, j < 4 → (sgn a ++ [32] ++ ([98, 121, 32] ++ sgn b))[i + j]? = [32, 98, 121, 32][j]? := fun j hj => by
    have := subAt_get (j := j) hs (by rw [ly]; exact hj)
    rw [es, sgn_app, sgn_app, es] at this
    rw [← this]
    congr 1
    simp
  have la : (sgn a).length = a.length := sgn_len a
  have g1 := g 1 (by decide)
  have g2 := g 2 (by decide)
  have g3 := g 3 (by decide)
  have lp : (sgn a ++ [32]).length = a.length + 1 := by rw [List.length_append, la]; rfl
  have at0 : (sgn a ++ [32])[a.length]? = some 32 := by rw [List.getElem?_append_right (by omega), la]; simp
  have pre : ∀ k, k < a.length + 1 → (sgn a ++ [32] ++ ([98, 121, 32] ++ sgn b))[k]? = (sgn a ++ [32])[k]? := fun k hk => List.getElem?_append_left (by omega)
  by_cases h3 : i + 3 < a.length + 1
  · rw [pre _ h3] at g3
    rw [pre _ (by omega)] at g2
    exact ny_no h g2 g3
  · by_cases h2 : i + 2 = a.length
    · rw [pre _ (by omega), h2, at0] at g2
      simp at g2
    · rw [pre _ (by omega), show i + 1 = a.length by omega, at0] at g1
      simp at g1
/-! the last sign of a word -/
def LastOk (x : Str) : Prop := ∀ z, (sgn x).getLast? = some z → z ≠ 121
theorem last_num (n : Nat) : LastOk (numS n) := fun z hz => by
  have := numS_in (List.mem_of_getLast? hz)
  omega
theorem last_entry (e : Int) : LastOk (entryS e) := by
  unfold entryS
  split
  · intro z hz
    have : (sgn (Str.ofString "endless")).getLast? = some 115 := by decide +kernel
    rw [this] at hz
    cases hz
    decide
  · exact last_num _
theorem last_kind {kn : List Str} {mv : List Mv} (hB : GoodBk kn mv) {k : Str} (hk : k ∈ kn) : LastOk k := fun z hz => by
  obtain ⟨i, hi⟩ := List.mem_iff_getElem?.mp hk
  have hl := (List.getElem?_eq_some_iff.mp hi).1
  have h6 := hB.six
  obtain ⟨c0, cs, e, _⟩ := hB.kinds i k hi
  have e' : sgn k = c0 :: (cs ++ [97 + i]) := e
  rw [e', show c0 :: (cs ++ [97 + i]) = (c0 :: cs) ++ [97 + i] from rfl, List.getLast?_append] at hz
  simp at hz
  omega
theorem ny_word {x : Str} {r : List Nat} (h : 32 ∉ sgn x) (hl : LastOk x) : ny (sgn x ++ 32 :: r) = ny r := ny_tok h hl
theorem ny_items : ∀ {its : List (Str × Str)} {r : List Nat}, (∀ p ∈ its, WordOk p.1 ∧ KindOk p.2 ∧ LastOk p.1 ∧ LastOk p.2) → its ≠ [] → ny (sgn (Str.join (Str.ofString " + ") (its.map itS)) ++ 32 :: r) = ny r
  | [], _, _, h => absurd rfl h
  | [p], r, h, _ => by
    obtain ⟨h1, h2, h3, h4⟩ := h p List.mem_cons_self
    show ny (sgn (itS p) ++ 32 :: r) = _
    unfold itS
    rw [sgn_app, sgn_app, sp1_sgn]
    rw [List.append_assoc, List.append_assoc, show [32] ++ (sgn p.2 ++ 32 :: r) = 32 :: (sgn p.2 ++ 32 :: r) from rfl, ny_word h1.sp h3, ny_word (fun z => by have := h2.ok _ z; omega) h4]
  | p :: q :: its, r, h, _ => by
    obtain ⟨h1, h2, h3, h4⟩ := h p List.mem_cons_self
    have ih := ny_items (its := q :: its) (r := r) (fun x hx => h x (List.mem_cons_of_mem _ hx)) (by simp)
    have es : sgn (Str.ofString " + ") = [32, 43, 32] := by decide +kernel
    rw [List.map_cons, List.map_cons, join_two, sgn_app, sgn_app, es]
    rw [List.map_cons] at ih
    unfold itS at *
    rw [sgn_app, sgn_app, sp1_sgn]
    simp only [List.append_assoc, List.cons_append, List.nil_append]
    rw [ny_word h1.sp h3, ny_word (fun z => by have := h2.ok _ z; omega) h4]
    rw [show (43 :: 32 :: (sgn (Str.join (Str.ofString " + ") ((q.1 ++ sp1 ++ q.2) :: List.map (fun p => p.1 ++ sp1 ++ p.2) its)) ++ 32 :: r)) = [43] ++ 32 :: (sgn (Str.join (Str.ofString " + ") ((q.1 ++ sp1 ++ q.2) :: List.map (fun p => p.1 ++ sp1 ++ p.2) its)) ++ 32 :: r) from rfl, ny_tok (by decide) (by decide)]
    exact ih
theorem ny_stock {kn : List Str} {mv : List Mv} (hB : GoodBk kn mv) {es : List Int} (he : ∀ e ∈ es, okE e) : ny (sgn (textOf (itsOf kn (stW es))) ++ [32]) = true := by
  have h6 := hB.six
  have hI := itsOk_of (kn := kn) (W := stW es) (by omega) hB.kindOk (stW_ok he)
  by_cases hn : itsOf kn (stW es) = []
  · rw [hn]
    decide +kernel
  · rw [← text_join hn, txt_join]
    rw [ny_items (fun p hp => ⟨hI.w p hp, hI.k p hp, ?_, last_kind hB (its_words hp).2.1⟩) hn]
    · rfl
    · obtain ⟨h1, _, h3⟩ := its_words hp
      obtain ⟨e, _, e2⟩ := List.mem_map.mp h1
      rw [← e2] at h3 ⊢
      unfold lawWord at h3 ⊢
      split
      · rename_i hz
        rw [if_pos hz] at h3
        exact absurd rfl h3
      · exact last_entry e
end Fw


namespace Fw
open PySem PySem.Spec PyProof.Rows L2 GxR Gx Gy RZ Mint
/-! ### lines of tops and of answers read -/
instance op_neC {K : PySem.W.Frag} : OpC K (rNeC K) (fun x y Q => ∃ d e, dataC x = some d ∧ dataC y = some e ∧ SeqAt.shaped d = true ∧ SeqAt.shaped e = true ∧ Q (.d (.bool (!PyData.eqv d e)))) := ⟨fun {H u v x y L L' Q Q'} hu hv h q => by
  obtain ⟨d, e, h1, h2, h3, h4, h⟩ := h
  exact ⟨d, e, dataC_dp hu h1, dataC_dp hv h2, h3, h4, q _ H (.d (.bool _)) [] .refl ⟨.bl _, rfl⟩ (fun a z => nomatch z) h⟩⟩
theorem fo_neC {X : Cx} (hu : X.A.units + 64 < cLine) : OpR X (compareOp .NotEq) (rNeC X.K) := op_neD hu
def g_parted_by {K : PySem.W.Frag} : GF K := fun cs Q => ∃ (kn : List Str) (mv : List Mv) (a b : Str), cs = [.d (bkD kn mv), .d (.str (a ++ byS ++ b))] ∧ GoodBk kn mv ∧ ny (sgn a ++ [32]) = true ∧ a.length ≤ 100000 ∧ b.length ≤ 100000 ∧ Q (.d (.tuple [.str a, .str b])) cs
def g_read_top {K : PySem.W.Frag} : GF K := fun cs Q => ∃ (kn : List Str) (mv : List Mv) (t : List Int × List Part), cs = [.d (bkD kn mv), .d (.str (topT kn mv t))] ∧ GoodBk kn mv ∧ t.1.length = kn.length ∧ (∀ e ∈ t.1, okE e) ∧ PlOk mv.length 2 t.2 ∧ t.2.length ≤ 5 ∧ Q (.d (topD t)) cs
def g_read_answer {K : PySem.W.Frag} : GF K := fun cs Q => ∃ (kn : List Str) (mv : List Mv) (k : Str) (a : Ans), cs = [.d (bkD kn mv), .d (.str k), .d (.str (ansT mv k a))] ∧ GoodBk kn mv ∧ k ∈ kn ∧ AnOk mv.length a ∧ Q (.d (ansD a)) cs
theorem by_no {kn : List Str} {mv : List Mv} (hB : GoodBk kn mv) : Str.ofString "by" ∉ kn := fun z => by
  exact last_kind hB z 121 (by decide +kernel) rfl
theorem cut_top {z : Str} : cutS (topS ++ z) (some 4) none = z := by
  refine sgn_ext ?_
  have es : sgn topS = [116, 111, 112, 32] := by decide +kernel
  have hl : (topS ++ z).length = 4 + z.length := by rw [Str.length_append]; rfl
  unfold cutS
  rw [show (4 : Int) = ((4 : Nat) : Int) from rfl, HT.sIx_nat, HT.sIx_none]
  show List.take _ (List.drop _ (sgn (topS ++ z))) = _
  rw [sgn_app, es, hl, show min 4 (4 + z.length) = 4 by omega, show 4 + z.length - 4 = z.length by omega]
  show List.take z.length (sgn z) = _
  rw [← sgn_len, List.take_length]
theorem assoc4 (a b c d : Str) : a ++ b ++ c ++ d = a ++ (b ++ c ++ d) := sgn_ext (by simp only [sgn_app, List.append_assoc])
section
variable {P : Program} {w : World} {K : PySem.W.Frag} {mg : Str → Option Value} {base : Heap} {f T : Addr} {fd : FuncData} {Ps : List Addr}
abbrev sparted_by : Stmt := top 44
theorem scparted_by : FnScope ["book", "text", "head", "_", "tail"] ["book", "text"] (defScope sparted_by) := ⟨rfl, rfl, rfl, by decide +kernel, rfl, by decide +kernel, by decide +kernel⟩
theorem ok_parted_by (F : Fun K "parted_by" "parted_by" sparted_by f fd) (G : Glb mg) (hBy : ∃ t, mg "BY" = some (.str byS t))  : FnOk P w K mg base CX0 (1) f fd ["book", "text"] (spA K Ps g_parted_by) := by
  obtain ⟨t1, cBy⟩ := hBy
  refine ok_fn F scparted_by (fun cs Q' h => ?_) (by decide) fun cdv A outer s H E hr => ?_
  · obtain ⟨kn, mv, a, b, rfl, hB, hn, l1, l2, h⟩ := h
    rfl
  have nd := scparted_by.nd
  refine ⟨_, ?fs, (pss_cons (ps_if (pt_cmpR op_in_seq pe_str (pe_ix ix_tup (pv 0) pe_int (fun _ _ => rfl)) rfl) (pss_one L2.ps_never) (pss_one (ps_asg (fe_partition (pv 1) (pe_gS cBy)) (pg_tup (n := 3) (by rfl) (pgs_cons (pg_name (i := 2) nd rfl (Or.inl rfl)) (pgs_cons (pg_name (i := 3) nd rfl (Or.inl rfl)) (pgs_cons (pg_name (i := 4) nd rfl (Or.inl rfl)) pgs_nil)))))))
    (pss_one (ps_ret (pe_tup (pa_cons (pv 2) (pa_cons (pv 4) pa_nil)))))), ?inst, fun cs Q' hg => ?body⟩
  case inst =>
    dsimp only [cxOf, Cx.nox, Cx.wish, List.map]
    infer_instance
  case body =>
    obtain ⟨kn, mv, a, b, rfl, hB, hn, l1, l2, h⟩ := hg
    have z1 : 16777216 ≤ sizeLine := by decide
    have e1 := by_cut (b := b) hn
    have e2 := by_no hB
    have lb : byS.length = 4 := by decide +kernel
    simp [and_assoc, e1, e2, Str.length_append, lb, bookD]
    exact ⟨by omega, h⟩
abbrev sread_top : Stmt := top 45
theorem scread_top : FnScope ["book", "line", "stock_text", "plan_text", "row"] ["book", "line"] (defScope sread_top) := ⟨rfl, rfl, rfl, by decide +kernel, rfl, by decide +kernel, by decide +kernel⟩
theorem ok_read_top (F : Fun K "read_top" "read_top" sread_top f fd) (G : Glb mg) (hTop : ∃ t, mg "TOP" = some (.str topS t)) (D_parted_by : Def P w K mg base "parted_by" (1) ["book", "text"] (spA K Ps g_parted_by)) (D_read_extended : Def P w K mg base "read_extended" (6) ["book", "text"] (spA K Ps g_read_extended)) (D_print_stock : Def P w K mg base "print_stock" (3) ["book", "stock"] (spA K Ps g_print_stock)) (D_read_plan : Def P w K mg base "read_plan" (16) ["book", "text"] (spA K Ps g_read_plan)) : FnOk P w K mg base CX0 (17) f fd ["book", "line"] (spA K Ps g_read_top) := by
  obtain ⟨t1, cTop⟩ := hTop
  refine ok_fn F scread_top (fun cs Q' h => ?_) (by decide) fun cdv A outer s H E hr => ?_
  · obtain ⟨kn, mv, t, rfl, hB, t1, t2, t3, t4, h⟩ := h
    rfl
  have nd := scread_top.nd
  refine ⟨_, ?fs, (pss_cons (ps_asg (pe_c D_parted_by (hr.mono (by decide)) (pa_cons (pv 0) (pa_cons (pe_slice sl_str (pv 1) (po_some (pe_callB cr_lenS rfl G.len PySem.boot_len (pa_cons (pe_gS cTop) pa_nil))) po_none) pa_nil))) (pg_tup (n := 2) (by rfl) (pgs_cons (pg_name (i := 2) nd rfl (Or.inl rfl)) (pgs_cons (pg_name (i := 3) nd rfl (Or.inl rfl)) pgs_nil))))
    (pss_cons (ps_set (i := 4) nd rfl (Or.inl rfl) (pe_c D_read_extended (hr.mono (by decide)) (pa_cons (pv 0) (pa_cons (pv 2) pa_nil))))
    (pss_cons (ps_if (pt_cmpR op_ne (pe_c D_print_stock (hr.mono (by decide)) (pa_cons (pv 0) (pa_cons (pv 4) pa_nil))) (pv 2) (nomark _)) (pss_one L2.ps_never) pss_nil)
    (pss_one (ps_ret (pe_tup (pa_cons (pv 4) (pa_cons (pe_c D_read_plan (hr.mono (by decide)) (pa_cons (pv 0) (pa_cons (pv 3) pa_nil))) pa_nil)))))))), ?inst, fun cs Q' hg => ?body⟩
  case inst =>
    dsimp only [cxOf, Cx.nox, Cx.wish, List.map]
    infer_instance
  case body =>
    obtain ⟨kn, mv, t, rfl, hB, t1, t2, t3, t4, h⟩ := hg
    have z1 : 16777216 ≤ sizeLine := by decide
    have h6 := hB.six
    have lt : topS.length = 4 := by decide +kernel
    have lb : byS.length = 4 := by decide +kernel
    have hI := itsOk_of (kn := kn) (W := stW t.1) (by omega) hB.kindOk (stW_ok t2)
    have q1 := text_len (n := 6) hI (Nat.le_trans (its_len ..) h6)
    have q2 := (plan_bound hB t3 t4).2
    have e1 : topT kn mv t = topS ++ (textOf (itsOf kn (stW t.1)) ++ byS ++ planT mv t.2) := assoc4 ..
    have l1 : (topT kn mv t).length ≤ 17000 := by rw [e1]; simp only [Str.length_append]; omega
    have e2 : cutS (topT kn mv t) (some 4) none = textOf (itsOf kn (stW t.1)) ++ byS ++ planT mv t.2 := by rw [e1]; exact cut_top
    simp [and_assoc, lt, e2]
    refine ⟨by omega, by omega, kn, mv, _, _, rfl, hB, ny_stock hB t2, by omega, by omega, ?_⟩
    simp [and_assoc]
    refine x_rex ⟨hB, t1, t2, .refl _, ?_⟩
    simp [and_assoc]
    refine x_pstock ⟨t1, by omega, hB.kindOk, t2, ?_⟩
    simp [and_assoc]
    exact ⟨kn, mv, t.2, rfl, hB, t3, t4, by simpa [topD] using h⟩
theorem ny_most {kn : List Str} {mv : List Mv} (hB : GoodBk kn mv) {k : Str} (hk : k ∈ kn) (n : Nat) : ny (sgn (Str.ofString "most " ++ k ++ sp1 ++ numS n) ++ [32]) = true := by
  have es : sgn (Str.ofString "most ") = [109, 111, 115, 116] ++ [32] := by decide +kernel
  simp only [sgn_app, sp1_sgn, es, List.append_assoc]
  rw [show [32] ++ (sgn k ++ ([32] ++ (sgn (numS n) ++ [32]))) = 32 :: (sgn k ++ 32 :: (sgn (numS n) ++ 32 :: [])) from rfl]
  rw [ny_tok (by decide) (by decide), ny_word (fun z => by have := (hB.kindOk k hk).ok _ z; omega) (last_kind hB hk), ny_word (fun z => by have := numS_in z; omega) (last_num n)]
  rfl
theorem ny_fin {kn : List Str} {mv : List Mv} (hB : GoodBk kn mv) {k : Str} (hk : k ∈ kn) : ny (sgn (Str.ofString "endless " ++ k) ++ [32]) = true := by
  have es : sgn (Str.ofString "endless ") = [101, 110, 100, 108, 101, 115, 115] ++ [32] := by decide +kernel
  simp only [sgn_app, es, List.append_assoc]
  rw [show [32] ++ (sgn k ++ [32]) = 32 :: (sgn k ++ 32 :: []) from rfl]
  rw [ny_tok (by decide) (by decide), ny_word (fun z => by have := (hB.kindOk k hk).ok _ z; omega) (last_kind hB hk)]
  rfl
theorem split_words {l : List Str} (hne : l ≠ []) (h : ∀ x ∈ l, 32 ∉ sgn x) : Txt.split (Str.join sp1 l) sp1 = l := by
  have e : (sgn sp1)[0]? = some 32 := by decide +kernel
  exact split_is (o := 0) (c := 32) hne (by decide +kernel) e (once_of e (by decide +kernel)) h
theorem most_words {k : Str} {n : Nat} (h : 32 ∉ sgn k) : Txt.split (Str.ofString "most " ++ k ++ sp1 ++ numS n) sp1 = [Str.ofString "most", k, numS n] := by
  have e : Str.ofString "most " ++ k ++ sp1 ++ numS n = Str.join sp1 [Str.ofString "most", k, numS n] := by
    rw [join_two, join_two]
    refine sgn_ext ?_
    have es : sgn (Str.ofString "most ") = sgn (Str.ofString "most") ++ sgn sp1 := by decide +kernel
    simp only [sgn_app, es, List.append_assoc]
    rfl
  rw [e]
  refine split_words (by simp) fun x hx => ?_
  simp at hx
  rcases hx with rfl | rfl | rfl
  · decide +kernel
  · exact h
  · exact fun z => by have := numS_in z; omega
theorem fin_words {k : Str} (h : 32 ∉ sgn k) : Txt.split (Str.ofString "endless " ++ k) sp1 = [Str.ofString "endless", k] := by
  have e : Str.ofString "endless " ++ k = Str.join sp1 [Str.ofString "endless", k] := by
    rw [join_two]
    refine sgn_ext ?_
    have es : sgn (Str.ofString "endless ") = sgn (Str.ofString "endless") ++ sgn sp1 := by decide +kernel
    simp only [sgn_app, es, List.append_assoc]
    rfl
  rw [e]
  refine split_words (by simp) fun x hx => ?_
  simp at hx
  rcases hx with rfl | rfl
  · decide +kernel
  · exact h
theorem cut_last3 (a b c : PyData) : cutF [a, b, c] none (some (-1)) = [a, b] := rfl
abbrev sread_answer : Stmt := top 46
theorem scread_answer : FnScope ["book", "kind", "line", "head", "tail", "words", "number"] ["book", "kind", "line"] (defScope sread_answer) := ⟨rfl, rfl, rfl, by decide +kernel, rfl, by decide +kernel, by decide +kernel⟩
theorem ok_read_answer (F : Fun K "read_answer" "read_answer" sread_answer f fd) (G : Glb mg) (hGr : ∃ t, mg "GREATEST_NUMBER" = some (.int (10 ^ 40) t)) (D_parted_by : Def P w K mg base "parted_by" (1) ["book", "text"] (spA K Ps g_parted_by)) (D_read_plan : Def P w K mg base "read_plan" (16) ["book", "text"] (spA K Ps g_read_plan)) (D_read_number : Def P w K mg base "read_number" (2) ["word", "most"] (spA K Ps g_read_number)) (D_read_run : Def P w K mg base "read_run" (14) ["book", "text"] (spA K Ps (g_read_run 5))) : FnOk P w K mg base CX0 (17) f fd ["book", "kind", "line"] (spA K Ps g_read_answer) := by
  obtain ⟨t1, cG⟩ := hGr
  refine ok_fn F scread_answer (fun cs Q' h => ?_) (by decide) fun cdv A outer s H E hr => ?_
  · obtain ⟨kn, mv, k, a, rfl, hB, hk, ha, h⟩ := h
    rfl
  have nd := scread_answer.nd
  refine ⟨_, ?fs, (pss_cons (ps_asg (pe_c D_parted_by (hr.mono (by decide)) (pa_cons (pv 0) (pa_cons (pv 2) pa_nil))) (pg_tup (n := 2) (by rfl) (pgs_cons (pg_name (i := 3) nd rfl (Or.inl rfl)) (pgs_cons (pg_name (i := 4) nd rfl (Or.inl rfl)) pgs_nil))))
    (pss_cons (ps_set (i := 5) nd rfl (Or.inl rfl) (fe_split (pv 3) pe_str))
    (pss_cons (ps_if (pt_cmpR (fo_eqC hr.units) (pv 5) (pe_lst (pa_cons pe_str (pa_cons (pv 1) pa_nil))) (nomark _)) (pss_one (ps_ret (pe_tup (pa_cons pe_str (pa_cons (pe_c D_read_plan (hr.mono (by decide)) (pa_cons (pv 0) (pa_cons (pv 4) pa_nil))) pa_nil))))) pss_nil)
    (pss_cons (ps_set (i := 6) nd rfl (Or.inl rfl) (pe_c D_read_number (hr.mono (by decide)) (pa_cons (pe_ix ix_list (pv 5) (pe_un un_neg pe_int) (fun _ _ => rfl)) (pa_cons (pe_gI cG) pa_nil))))
    (pss_cons (ps_if (PW.pt (pw_or (pt_cmpR (fo_neC hr.units) (pe_slice sl_list (pv 5) po_none (po_some (pe_un un_neg pe_int))) (pe_lst (pa_cons pe_str (pa_cons (pv 1) pa_nil))) (nomark _)) (pw_or1 (pt_cmp (pc_isN (pv 6)))))) (pss_one L2.ps_never) pss_nil)
    (pss_one (ps_ret (pe_tup (pa_cons pe_str (pa_cons (pv 6) (pa_cons (pe_c D_read_run (hr.mono (by decide)) (pa_cons (pv 0) (pa_cons (pv 4) pa_nil))) pa_nil))))))))))), ?inst, fun cs Q' hg => ?body⟩
  case inst =>
    dsimp only [cxOf, Cx.nox, Cx.wish, List.map]
    infer_instance
  case body =>
    obtain ⟨kn, mv, k, a, rfl, hB, hk, ha, h⟩ := hg
    have z1 : 16777216 ≤ sizeLine := by decide
    have lb : byS.length = 4 := by decide +kernel
    have lm : (Str.ofString "most ").length = 5 := by decide +kernel
    have le : (Str.ofString "endless ").length = 8 := by decide +kernel
    have ls : sp1.length = 1 := by decide +kernel
    have a1 : ¬ sp1.length = 0 := by decide +kernel
    have hkk := hB.kindOk k hk
    have k32 : 32 ∉ sgn k := fun z => by have := hkk.ok _ z; omega
    have kl := hkk.len
    have s1 : SeqAt.shaped (.list [.str (Str.ofString "endless"), .str k]) = true := shaped_strs (xs := [Str.ofString "endless", k]) fun x hx => by
      simp at hx
      rcases hx with rfl | rfl
      · decide +kernel
      · exact fun c hc => by have := hkk.ok c hc; omega
    have s2 : SeqAt.shaped (.list [.str (Str.ofString "most"), .str k]) = true := shaped_strs (xs := [Str.ofString "most", k]) fun x hx => by
      simp at hx
      rcases hx with rfl | rfl
      · decide +kernel
      · exact fun c hc => by have := hkk.ok c hc; omega
    have bsp : Str.ofString " " = sp1 := rfl
    cases a with
    | most n r =>
      have l2 := numS_len ha.1
      have l3 := rn_len2 hB ha.2
      have e1 := most_words (k := k) (n := n) k32
      have s3 : SeqAt.shaped (.list [.str (Str.ofString "most"), .str k, .str (numS n)]) = true := shaped_strs (xs := [Str.ofString "most", k, numS n]) fun x hx => by
        simp at hx
        rcases hx with rfl | rfl | rfl
        · decide +kernel
        · exact fun c hc => by have := hkk.ok c hc; omega
        · exact fun c hc => by have := numS_in hc; omega
      have q1 : PyData.eqv (.list [.str (Str.ofString "most"), .str k, .str (numS n)]) (.list [.str (Str.ofString "endless"), .str k]) = false := by simp [PyData.eqv, PyData.eqvAll]
      have q2 : PyData.eqv (.list [.str (Str.ofString "most"), .str k]) (.list [.str (Str.ofString "most"), .str k]) = true := by simp [PyData.eqv, PyData.eqvAll]
      simp [and_assoc, ansT]
      refine ⟨kn, mv, _, _, rfl, hB, ny_most hB hk n, by simp only [Str.length_append]; omega, by omega, ?_⟩
      rw [bsp]
      simp [and_assoc, e1, s1, s2, s3, q1, q2, cut_last3]
      refine ⟨a1, by simp only [Str.length_append]; omega, .str (numS n), rfl, numS n, 10 ^ 40, rfl, by decide, by omega, ?_⟩
      rw [readN_num (Nat.le_trans ha.1 (by decide))]
      simp [and_assoc, vD, s1, s2, s3, q1, q2, cut_last3]
      refine ⟨kn, mv, r, 2, rfl, hB, by decide, by decide, ha.2, ?_⟩
      simp [and_assoc]
      exact h
    | fin pl =>
      have l3 := (plan_bound hB ha.1 ha.2).2
      have e1 := fin_words (k := k) k32
      have q1 : PyData.eqv (.list [.str (Str.ofString "endless"), .str k]) (.list [.str (Str.ofString "endless"), .str k]) = true := by simp [PyData.eqv, PyData.eqvAll]
      simp [and_assoc, ansT]
      refine ⟨kn, mv, _, _, rfl, hB, ny_fin hB hk, by simp only [Str.length_append]; omega, by omega, ?_⟩
      rw [bsp]
      simp [and_assoc, e1, s1, q1]
      refine ⟨a1, by simp only [Str.length_append]; omega, kn, mv, pl, rfl, hB, ha.1, ha.2, ?_⟩
      simp [and_assoc]
      exact h
end
end Fw


namespace Fw
open PySem PySem.Spec PyProof.Rows L2 GxR Gx Gy RZ Mint
open PySem.Builtin.Str (subAt strSub occurrences partsBetween strKind)
/-! ### verdicts read -/
abbrev G32 (x : Str) : Prop := ∀ c ∈ sgn x, 32 ≤ c
theorem g32_app {x y : Str} (h : G32 x) (k : G32 y) : G32 (x ++ y) := fun c hc => by
  rw [sgn_app] at hc
  rcases List.mem_append.mp hc with hc | hc
  · exact h c hc
  · exact k c hc
theorem g32_join {a : Str} {xs : List Str} (h : G32 a) (k : ∀ x ∈ xs, G32 x) : G32 (Txt.join a xs) := fun c hc => by
  rcases join_mem hc with hc | ⟨x, h1, h2⟩
  · exact h c hc
  · exact k x h1 c h2
theorem g32_num (n : Nat) : G32 (numS n) := fun c hc => by have := numS_in hc; omega
theorem g32_kind {x : Str} (h : KindOk x) : G32 x := fun c hc => by have := h.ok c hc; omega
theorem g32_jn {xs : List Str} (k : ∀ x ∈ xs, G32 x) : G32 (jn xs) := by
  unfold jn
  split
  · exact (by decide +kernel)
  · exact g32_join (by decide +kernel) k
theorem g32_st {kn : List Str} {mv : List Mv} (h : GoodBk kn mv) : ∀ (d : Nat) (s : RSt), GSt mv.length tt3 d s → G32 (stT mv s)
  | 0, s, hs => by
    obtain ⟨m, rfl, hm⟩ := hs
    obtain ⟨x, _, e, k⟩ := nm_ok h hm
    unfold stT
    rw [e]
    exact g32_kind k
  | d + 1, s, hs => by
    rcases hs with ⟨m, rfl, hm⟩ | ⟨k, r, rfl, h1, h2, h3, h4, h5⟩
    · obtain ⟨x, _, e, k⟩ := nm_ok h hm
      unfold stT
      rw [e]
      exact g32_kind k
    · unfold stT
      refine g32_app (g32_app (g32_app (g32_num _) (by decide +kernel)) (g32_jn fun x hx => ?_)) (by decide +kernel)
      rw [stTs_map] at hx
      obtain ⟨s, hs, rfl⟩ := List.mem_map.mp hx
      exact g32_st h d s (h5 s hs)
theorem g32_run {kn : List Str} {mv : List Mv} (h : GoodBk kn mv) {r : List RSt} (hr : GRn mv.length tt3 2 r) : G32 (rnT mv r) := g32_jn fun x hx => by
  rw [stTs_map] at hx
  obtain ⟨s, hs, rfl⟩ := List.mem_map.mp hx
  exact g32_st h 2 s (hr.all s hs)
theorem g32_plan {kn : List Str} {mv : List Mv} (hB : GoodBk kn mv) {pl : List Part} (h : PlOk mv.length 2 pl) : G32 (planT mv pl) := by
  unfold planT
  split
  · exact (by decide +kernel)
  · refine g32_join (by decide +kernel) fun x hx => ?_
    obtain ⟨p, hp, rfl⟩ := List.mem_map.mp hx
    exact g32_app (g32_app ((by decide +kernel : ∀ b, G32 (wdS b)) _) (by decide +kernel)) (g32_run hB (h.g p hp).1)
theorem g32_items {its : List (Str × Str)} (h : ItsOk its) : G32 (textOf its) := by
  by_cases hn : its = []
  · rw [hn]; exact (by decide +kernel)
  · rw [← text_join hn]
    refine g32_join (by decide +kernel) fun x hx => ?_
    obtain ⟨p, hp, rfl⟩ := List.mem_map.mp hx
    exact g32_app (g32_app (fun c hc => by have := (h.w p hp).ok c hc; omega) (by decide +kernel)) (g32_kind (h.k p hp))
theorem g32_line {w : Str} {ns : List Nat} (h : G32 w) : G32 (lineN w ns) := g32_join (by decide +kernel) fun x hx => by
  rcases List.mem_cons.mp hx with rfl | hx
  · exact h
  · obtain ⟨n, _, rfl⟩ := List.mem_map.mp hx
    exact g32_num n
theorem g32_lines {kn : List Str} {mv : List Mv} {v : Vd} (hB : GoodBk kn mv) (h : VdOk kn mv v) : ∀ x ∈ vdLines kn mv v, G32 x := fun x hx => by
  have h6 := hB.six
  rcases List.mem_cons.mp hx with rfl | hx
  · exact g32_line (by decide +kernel)
  rcases List.mem_cons.mp hx with rfl | hx
  · exact g32_line (by decide +kernel)
  rcases List.mem_append.mp hx with hx | hx
  · obtain ⟨t, ht, rfl⟩ := List.mem_map.mp hx
    obtain ⟨t1, t2, t3, t4⟩ := h.tp t ht
    exact g32_app (g32_app (g32_app (by decide +kernel) (g32_items (itsOk_of (by omega) hB.kindOk (stW_ok t2)))) (by decide +kernel)) (g32_plan hB t3)
  · obtain ⟨⟨k, a⟩, hp, rfl⟩ := List.mem_map.mp hx
    have hz := List.of_mem_zip hp
    have ha := h.ao a hz.2
    have hk := g32_kind (hB.kindOk k hz.1)
    cases a with
    | most n r => exact g32_app (g32_app (g32_app (g32_app (g32_app (by decide +kernel) hk) (by decide +kernel)) (g32_num n)) (by decide +kernel)) (g32_run hB ha.2)
    | fin pl => exact g32_app (g32_app (g32_app (by decide +kernel) hk) (by decide +kernel)) (g32_plan hB ha.1)
theorem vd_split {kn : List Str} {mv : List Mv} {v : Vd} (hB : GoodBk kn mv) (h : VdOk kn mv v) : Txt.split (vdT kn mv v) (Str.ofString "\n") = vdLines kn mv v := by
  unfold vdT
  rw [txt_join]
  have e : (sgn (Str.ofString "\n"))[0]? = some 10 := by decide +kernel
  exact split_is (o := 0) (c := 10) (by unfold vdLines; simp) (by decide +kernel) e (once_of e (by decide +kernel)) fun x hx z => by
    have := g32_lines hB h x hx 10 z
    omega
theorem starts_app (x y : Str) : Txt.startswith (x ++ y) x = true := by
  unfold Txt.startswith
  rw [Bool.and_eq_true]
  refine ⟨by rw [decide_eq_true_iff, Str.length_append]; omega, ?_⟩
  have := subAt_mid (Str.ofString "") x y
  rw [show Str.ofString "" ++ x ++ y = x ++ y from by
    rw [show Str.ofString "" ++ x = x from empty_app x]] at this
  exact this
theorem starts_no {x y : Str} {c d : Nat} (hx : (sgn x)[0]? = some c) (hy : (sgn y)[0]? = some d) (h : c ≠ d) : Txt.startswith x y = false := by
  unfold Txt.startswith
  rw [Bool.and_eq_false_iff]
  right
  rw [Bool.eq_false_iff]
  intro z
  have hl : 0 < y.length := by
    have := (List.getElem?_eq_some_iff.mp hy).1
    rw [sgn_len] at this
    exact this
  have := subAt_get (j := 0) z hl
  rw [Nat.add_zero, hx, hy] at this
  exact h (Option.some.inj this)
def vdFound (v : Vd) : List PyData := nsD v.pr :: nsD v.lp :: (v.rp.map topD ++ v.an.map ansD)
theorem vd_len {kn : List Str} {mv : List Mv} {v : Vd} (h : VdOk kn mv v) : (vdLines kn mv v).length = 2 + v.rp.length + kn.length := by
  unfold vdLines
  rw [List.length_cons, List.length_cons, List.length_append, List.length_map, List.length_map, List.length_zip, h.an, Nat.min_self]
  omega
theorem vf_len {kn : List Str} {mv : List Mv} {v : Vd} (h : VdOk kn mv v) : (vdFound v).length = 2 + v.rp.length + kn.length := by
  unfold vdFound
  rw [List.length_cons, List.length_cons, List.length_append, List.length_map, List.length_map, h.an]
  omega
def g_read_line {K : PySem.W.Frag} : GF K := fun cs Q => ∃ (kn : List Str) (mv : List Mv) (v : Vd) (i : Nat) (ln : Str) (x : PyData), cs = [.d (bkD kn mv), .d (.int v.rp.length), .d (.int i), .d (.str ln)] ∧ GoodBk kn mv ∧ VdOk kn mv v ∧ (vdLines kn mv v)[i]? = some ln ∧ (vdFound v)[i]? = some x ∧ Q (.d x) cs
def g_read_verdict {K : PySem.W.Frag} : GF K := fun cs Q => ∃ (kn : List Str) (mv : List Mv) (v : Vd), cs = [.d (bkD kn mv), .d (.str (vdT kn mv v))] ∧ GoodBk kn mv ∧ VdOk kn mv v ∧ Q (.d (vdD v)) cs
section
variable {P : Program} {w : World} {K : PySem.W.Frag} {mg : Str → Option Value} {base : Heap} {f T : Addr} {fd : FuncData} {Ps : List Addr}
abbrev sread_line : Stmt := top 42
theorem scread_line : FnScope ["book", "tops", "at", "line", "kinds", "moves"] ["book", "tops", "at", "line"] (defScope sread_line) := ⟨rfl, rfl, rfl, by decide +kernel, rfl, by decide +kernel, by decide +kernel⟩
theorem ok_read_line (F : Fun K "read_line" "read_line" sread_line f fd) (G : Glb mg)  (D_read_numbers : Def P w K mg base "read_numbers" (3) ["word", "many", "line"] (spA K Ps g_read_numbers)) (D_read_top : Def P w K mg base "read_top" (17) ["book", "line"] (spA K Ps g_read_top)) (D_read_answer : Def P w K mg base "read_answer" (17) ["book", "kind", "line"] (spA K Ps g_read_answer)) : FnOk P w K mg base CX0 (18) f fd ["book", "tops", "at", "line"] (spA K Ps g_read_line) := by
  refine ok_fn F scread_line (fun cs Q' h => ?_) (by decide) fun cdv A outer s H E hr => ?_
  · obtain ⟨kn, mv, v, i, ln, x, rfl, hB, hv, h1, h2, h⟩ := h
    rfl
  have nd := scread_line.nd
  refine ⟨_, ?fs, (pss_cons (ps_asg (pv 0) (pg_tup (n := 2) (by rfl) (pgs_cons (pg_name (i := 4) nd rfl (Or.inl rfl)) (pgs_cons (pg_name (i := 5) nd rfl (Or.inl rfl)) pgs_nil))))
    (pss_one (ps_try_thru0 (pss_cons (ps_if (pt_cmpR op_eq (pv 2) pe_int (nomark _)) (pss_one (ps_ret (pe_c D_read_numbers (hr.mono (by decide)) (pa_cons pe_str (pa_cons (pe_callB cr_len rfl G.len PySem.boot_len (pa_cons (pv 4) pa_nil)) (pa_cons (pv 3) pa_nil)))))) pss_nil)
    (pss_cons (ps_if (pt_cmpR op_eq (pv 2) pe_int (nomark _)) (pss_one (ps_ret (pe_c D_read_numbers (hr.mono (by decide)) (pa_cons pe_str (pa_cons (pe_callB cr_len rfl G.len PySem.boot_len (pa_cons (pv 5) pa_nil)) (pa_cons (pv 3) pa_nil)))))) pss_nil)
    (pss_cons (ps_if (pt_cmpR op_lt (pv 2) (pe_op op_add pe_int (pv 1)) (nomark _)) (pss_one (ps_ret (pe_c D_read_top (hr.mono (by decide)) (pa_cons (pv 0) (pa_cons (pv 3) pa_nil))))) pss_nil)
    (pss_one (ps_ret (pe_c D_read_answer (hr.mono (by decide)) (pa_cons (pv 0) (pa_cons (pe_ix ix_tup (pv 4) (pe_op op_sub (pe_op op_sub (pv 2) pe_int) (pv 1)) (fun _ _ => rfl)) (pa_cons (pv 3) pa_nil)))))))))))), ?inst, fun cs Q' hg => ?body⟩
  case inst =>
    dsimp only [cxOf, Cx.nox, Cx.wish, List.map]
    infer_instance
  case body =>
    obtain ⟨kn, mv, v, i, ln, x, rfl, hB, hv, h1, h2, h⟩ := hg
    have h6 := hB.six
    have h8 := hB.eight
    have h3 := hv.rp
    have w1 : (Str.ofString "prices").length ≤ 20 := by decide +kernel
    have w2 : (Str.ofString "loop").length ≤ 20 := by decide +kernel
    have v1 : 32 ∉ sgn (Str.ofString "prices") := by decide +kernel
    have v2 : 32 ∉ sgn (Str.ofString "loop") := by decide +kernel
    have hl := (List.getElem?_eq_some_iff.mp h1).1
    rw [vd_len hv] at hl
    match i, h1, h2, hl with
    | 0, h1, h2, hl =>
      simp [vdLines] at h1
      simp [vdFound] at h2
      subst h1 h2
      simp [and_assoc, bookD]
      exact ⟨_, v.pr, by rw [hv.pr], w1, v1, by have := hv.pr; omega, hv.prb, by simpa using h⟩
    | 1, h1, h2, hl =>
      simp [vdLines] at h1
      simp [vdFound] at h2
      subst h1 h2
      simp [and_assoc, bookD]
      exact ⟨_, v.lp, by rw [hv.lp], w2, v2, by have := hv.lp; omega, hv.lpb, by simpa using h⟩
    | j + 2, h1, h2, hl =>
      have n0 : ¬ ((j : Int) + 2 = 0) := by omega
      have n1 : ¬ ((j : Int) + 2 = 1) := by omega
      simp [vdLines, vdFound] at h1 h2
      by_cases hj : j < v.rp.length
      · have c1 : (j : Int) + 2 < 2 + (v.rp.length : Int) := by omega
        rw [List.getElem?_append_left (by rw [List.length_map]; exact hj), List.getElem?_map] at h1 h2
        obtain ⟨t, ht⟩ : ∃ t, v.rp[j]? = some t := ⟨_, List.getElem?_eq_getElem hj⟩
        rw [ht] at h1 h2
        simp at h1 h2
        subst h1 h2
        obtain ⟨t1, t2, t3, t4⟩ := hv.tp t (List.mem_of_getElem? ht)
        simp [and_assoc, bookD, n0, n1, c1]
        exact ⟨kn, mv, t, rfl, hB, t1, t2, t3, t4, by simpa using h⟩
      · have c1 : ¬ (j : Int) + 2 < 2 + (v.rp.length : Int) := by omega
        have hjk : j - v.rp.length < kn.length := by omega
        have han := hv.an
        rw [List.getElem?_append_right (by rw [List.length_map]; omega), List.length_map] at h1 h2
        obtain ⟨k, hk⟩ : ∃ k, kn[j - v.rp.length]? = some k := ⟨_, List.getElem?_eq_getElem hjk⟩
        obtain ⟨a, ha⟩ : ∃ a, v.an[j - v.rp.length]? = some a := ⟨_, List.getElem?_eq_getElem (by omega)⟩
        have hz : (kn.zip v.an)[j - v.rp.length]? = some (k, a) := by
          rw [List.getElem?_zip_eq_some]; exact ⟨hk, ha⟩
        rw [List.getElem?_map, hz] at h1
        rw [List.getElem?_map, ha] at h2
        simp at h1 h2
        subst h1 h2
        have r1 : atI (kn.map PyData.str) ((j : Int) - (v.rp.length : Int)) = some (.str k) := by
          rw [show (j : Int) - (v.rp.length : Int) = ((j - v.rp.length : Nat) : Int) by omega]
          exact atI_nat (by rw [List.getElem?_map, hk]; rfl)
        simp [and_assoc, bookD, n0, n1, c1, r1]
        exact ⟨kn, mv, k, a, rfl, hB, List.mem_of_getElem? hk, hv.ao a (List.mem_of_getElem? ha), by simpa using h⟩
abbrev sread_verdict : Stmt := top 40
theorem scread_verdict : FnScope ["book", "text", "lines", "tops", "many", "found", "at", "told"] ["book", "text"] (defScope sread_verdict) := ⟨rfl, rfl, rfl, by decide +kernel, rfl, by decide +kernel, by decide +kernel⟩
theorem ok_read_verdict (F : Fun K "read_verdict" "read_verdict" sread_verdict f fd) (G : Glb mg)  (D_tops_among : Def P w K mg base "tops_among" (1) ["lines"] (spA K Ps g_tops_among)) (D_read_line : Def P w K mg base "read_line" (18) ["book", "tops", "at", "line"] (spA K Ps g_read_line)) : FnOk P w K mg base CX0 (19) f fd ["book", "text"] (spA K Ps g_read_verdict) := by
  refine ok_fn F scread_verdict (fun cs Q' h => ?_) (by decide) fun cdv A outer s H E hr => ?_
  · obtain ⟨kn, mv, v, rfl, hB, hv, h⟩ := h
    rfl
  have nd := scread_verdict.nd
  refine ⟨_, ?fs, (pss_cons (ps_set (i := 2) nd rfl (Or.inl rfl) (fe_split (pv 1) pe_str))
    (pss_cons (ps_set (i := 3) nd rfl (Or.inl rfl) (pe_c D_tops_among (hr.mono (by decide)) (pa_cons (pv 2) pa_nil)))
    (pss_cons (ps_set (i := 4) nd rfl (Or.inl rfl) (pe_op op_add (pe_op op_add pe_int (pv 3)) (pe_callB cr_len rfl G.len PySem.boot_len (pa_cons (pe_ix ix_tup (pv 0) pe_int (fun _ _ => rfl)) pa_nil))))
    (pss_cons (ps_set (i := 5) nd rfl (Or.inl rfl) (pe_lst pa_nil))
    (pss_cons (ps_for PassesOwn.never rfl (pi_range1 rfl G.range (pa_cons (pv 4) pa_nil)) (pg_name (i := 6) nd rfl (Or.inl rfl)) (pss_cons (ps_set (i := 7) nd rfl (Or.inl rfl) (pe_ifExp (pt_cmpR op_lt (pv 6) (pe_callB cr_len rfl G.len PySem.boot_len (pa_cons (pv 2) pa_nil)) (nomark _)) (pe_c D_read_line (hr.mono (by decide)) (pa_cons (pv 0) (pa_cons (pv 3) (pa_cons (pv 6) (pa_cons (pe_ix ix_list (pv 2) (pv 6) (fun _ _ => rfl)) pa_nil))))) pe_non))
    (pss_cons (ps_if (pt_cmp (pc_isN (pv 7))) (pss_one L2.ps_never) pss_nil)
    (pss_one (ps_expr (pe_bm PySem.F.plainAttrs_list PySem.F.slot_list_append PySem.F.type_list_append mt_append (pv 5) (pa_cons (pv 7) pa_nil)))))))
    (pss_cons (ps_if (pt_cmpR op_gt (pe_callB cr_len rfl G.len PySem.boot_len (pa_cons (pv 2) pa_nil)) (pv 4) (nomark _)) (pss_one L2.ps_never) pss_nil)
    (pss_one (ps_ret (pe_tup (pa_cons (pe_tup (pa_cons (pe_ix ix_list (pv 5) pe_int (fun _ _ => rfl)) (pa_cons (pe_ix ix_list (pv 5) pe_int (fun _ _ => rfl)) pa_nil))) (pa_cons (pe_callTy cr_tuple rfl G.tuple (by decide +kernel) (pa_cons (pe_slice sl_list (pv 5) (po_some pe_int) (po_some (pe_op op_add pe_int (pv 3)))) pa_nil)) (pa_cons (pe_callTy cr_tuple rfl G.tuple (by decide +kernel) (pa_cons (pe_slice sl_list (pv 5) (po_some (pe_op op_add pe_int (pv 3))) po_none) pa_nil)) pa_nil)))))))))))), ?inst, fun cs Q' hg => ?body⟩
  case inst =>
    dsimp only [cxOf, Cx.nox, Cx.wish, List.map]
    infer_instance
  case body =>
    obtain ⟨kn, mv, v, rfl, hB, hv, h⟩ := hg
    have h6 := hB.six
    have h8 := hB.eight
    have h3 := hv.rp
    have z1 : 16777216 ≤ sizeLine := by decide
    have hlb := vd_lines hB hv
    have hlen : (vdT kn mv v).length ≤ 300000 := by
      have h1 := join_len (Str.ofString "\n") (vdLines kn mv v)
      have h2 := sum_le (f := (·.length)) _ hlb.1.2
      have a : (Str.ofString "\n").length = 1 := by decide +kernel
      rw [a] at h1
      have : (vdLines kn mv v).length * 17000 ≤ 11 * 17000 := Nat.mul_le_mul_right _ hlb.1.1
      show (Txt.join (Str.ofString "\n") (vdLines kn mv v)).length ≤ _
      have := hlb.1.1
      omega
    have e1 := vd_split hB hv
    have a1 : ¬ (Str.ofString "\n").length = 0 := by decide +kernel
    have l1 := vd_len hv
    have l2 := vf_len hv
    simp [and_assoc, e1]
    refine ⟨a1, by omega, vdLines kn mv v, v.rp.length, rfl, by omega, by omega, ?_, ?_, ?_⟩
    · intro i x hi hx
      rw [Nat.add_comm] at hx
      simp [vdLines] at hx
      rw [List.getElem?_append_left (by rw [List.length_map]; exact hi), List.getElem?_map] at hx
      obtain ⟨t, ht⟩ : ∃ t, v.rp[i]? = some t := ⟨_, List.getElem?_eq_getElem hi⟩
      rw [ht] at hx
      simp at hx
      subst hx
      have e1 : topT kn mv t = topS ++ (textOf (itsOf kn (stW t.1)) ++ byS ++ planT mv t.2) := assoc4 ..
      rw [e1]
      exact starts_app _ _
    · intro x hx
      rw [Nat.add_comm] at hx
      simp [vdLines] at hx
      rw [List.getElem?_append_right (by simp), List.length_map, Nat.sub_self, List.getElem?_map] at hx
      obtain ⟨⟨k, a⟩, hm, rfl⟩ := Option.map_eq_some_iff.mp hx
      cases a with
      | most n r => exact starts_no (c := 109) (d := 116) (by unfold ansT; simp only [sgn_app, List.append_assoc]; rfl) (by decide +kernel) (by decide)
      | fin pl => exact starts_no (c := 101) (d := 116) (by unfold ansT; simp only [sgn_app, List.append_assoc]; rfl) (by decide +kernel) (by decide)
    simp [and_assoc, bookD]
    have et : (2 + (v.rp.length : Int) + (kn.length : Int)).toNat = (vdFound v).length := by omega
    rw [et]
    refine ⟨by omega, by omega, ?_⟩
    have tups : ∀ x ∈ vdFound v, ∃ ds, x = .tuple ds := fun x hx => by
      rcases List.mem_cons.mp hx with rfl | hx
      · exact ⟨_, rfl⟩
      rcases List.mem_cons.mp hx with rfl | hx
      · exact ⟨_, rfl⟩
      rcases List.mem_append.mp hx with hx | hx
      · obtain ⟨t, _, rfl⟩ := List.mem_map.mp hx
        exact ⟨_, rfl⟩
      · obtain ⟨a, _, rfl⟩ := List.mem_map.mp hx
        cases a <;> exact ⟨_, rfl⟩
    refine forF_range (n := (vdFound v).length) (fun (i : Nat) s => ∃ c6 c7 : SC K, s = [.f (.d (bkD kn mv)), .f (.d (.str (vdT kn mv v))), .f (.l ((vdLines kn mv v).map PyData.str)), .f (.d (.int v.rp.length)), .f (.d (.int (2 + (v.rp.length : Int) + (kn.length : Int)))), .f (.l ((vdFound v).take i)), c6, c7] ∧ blS c6 = true ∧ blS c7 = true) (fun _ _ _ => trivial) ⟨.e, .e, by simp, rfl, rfl⟩ (fun i s hi ⟨c6, c7, es, b6, b7⟩ N hN => ?_) (fun s ⟨c6, c7, es, b6, b7⟩ => ?_)
    · subst es
      obtain ⟨ln, hln⟩ : ∃ ln, (vdLines kn mv v)[i]? = some ln := ⟨_, List.getElem?_eq_getElem (by omega)⟩
      obtain ⟨x, hx⟩ : ∃ x, (vdFound v)[i]? = some x := ⟨_, List.getElem?_eq_getElem hi⟩
      obtain ⟨ds, rfl⟩ := tups x (List.mem_of_getElem? hx)
      have r1 : atI ((vdLines kn mv v).map PyData.str) (i : Int) = some (.str ln) := atI_nat (by rw [List.getElem?_map, hln]; rfl)
      have c1 : (i : Int) < ((vdLines kn mv v).length : Int) := by omega
      have hs : N [.f (.d (bkD kn mv)), .f (.d (.str (vdT kn mv v))), .f (.l ((vdLines kn mv v).map PyData.str)), .f (.d (.int v.rp.length)), .f (.d (.int (2 + (v.rp.length : Int) + (kn.length : Int)))), .f (.l ((vdFound v).take i ++ [.tuple ds])), .f (.d (.int (i : Int))), .f (.d (.tuple ds))] := hN _ ⟨_, _, by rw [List.take_succ, hx]; rfl, rfl, rfl⟩
      have hln2 : ((vdFound v).take i).length < 1000 := by rw [List.length_take]; omega
      obtain ⟨Fd, eF⟩ : ∃ Fd, Fd = (vdFound v).take i := ⟨_, rfl⟩
      rw [← eF] at hs hln2 ⊢
      obtain ⟨LL, eL⟩ : ∃ LL, LL = (vdLines kn mv v).map PyData.str := ⟨_, rfl⟩
      have hLL : (LL.length : Int) = (vdLines kn mv v).length := by rw [eL, List.length_map]
      rw [← eL] at hs r1 ⊢
      simp [and_assoc, can_bl b6, can_bl b7, c1, r1, hLL]
      refine ⟨kn, mv, v, i, ln, _, rfl, hB, hv, hln, hx, ?_⟩
      simp [and_assoc, can_bl b7, isNonC]
      exact ⟨hln2, hs⟩
    · subst es
      rw [List.take_length]
      have c1 : ¬ 2 + (v.rp.length : Int) + (kn.length : Int) < ((vdLines kn mv v).length : Int) := by omega
      simp [and_assoc, c1]
      have k1 : cutF (vdFound v) (some 2) (some (2 + (v.rp.length : Int))) = v.rp.map topD := by
        unfold cutF
        rw [show (2 : Int) + (v.rp.length : Int) = ((2 + v.rp.length : Nat) : Int) by omega, show (some (2 : Int)) = some ((2 : Nat) : Int) from rfl, HT.sIx_nat, HT.sIx_nat, l2, show min 2 (2 + v.rp.length + kn.length) = 2 by omega, show min (2 + v.rp.length) (2 + v.rp.length + kn.length) - 2 = v.rp.length by omega]
        show ((v.rp.map topD ++ v.an.map ansD).take v.rp.length) = _
        rw [show v.rp.length = (v.rp.map topD).length by rw [List.length_map], List.take_left]
      have k2 : cutF (vdFound v) (some (2 + (v.rp.length : Int))) none = v.an.map ansD := by
        rw [show (2 : Int) + (v.rp.length : Int) = ((2 + v.rp.length : Nat) : Int) by omega, cutF_from, Nat.add_comm]
        show ((v.rp.map topD ++ v.an.map ansD).drop v.rp.length) = _
        rw [show v.rp.length = (v.rp.map topD).length by rw [List.length_map], List.drop_left]
      rw [k1, k2]
      exact ⟨by omega, _, (atI_nat (n := 0) rfl : atI (vdFound v) ((0 : Nat) : Int) = some _), _, (atI_nat (n := 1) rfl : atI (vdFound v) ((1 : Nat) : Int) = some _), h⟩
end
end Fw


namespace Fw
open PySem PySem.Spec PyProof.Rows L2 GxR Gx Gy RZ Mint
/-! ### the law -/
def Lay2 (n : Nat) (d : PyData) : Prop := d.canLay0 = true ∧ d.depth ≤ n
theorem Lay2.tup {n : Nat} {ds : List PyData} (h : ∀ x ∈ ds, Lay2 n x) : Lay2 (n + 1) (.tuple ds) := by
  constructor
  · simp only [PyData.canLay0]
    exact lays_ofF fun x hx => (h x hx).1
  · simp only [PyData.depth]
    have := deeps_ofF fun x hx => (h x hx).2
    omega
theorem Lay2.mono {a b : Nat} {d : PyData} (h : Lay2 a d) (k : a ≤ b) : Lay2 b d := ⟨h.1, Nat.le_trans h.2 k⟩
theorem Lay2.str {x : Str} (h : ∀ c ∈ sgn x, c ≤ 122) {n : Nat} : Lay2 n (.str x) := ⟨by simp only [PyData.canLay0]; exact strOk_of h, by simp [PyData.depth]⟩
theorem Lay2.int {i : Int} {n : Nat} : Lay2 n (.int i) := ⟨rfl, by simp [PyData.depth]⟩
theorem lay2_run {nm k t : Nat} {r : List RSt} (h : GRn nm (k, t) 2 r) : Lay2 50 (.tuple (rnD r)) := by
  have := depth_rn (n := 5) r fun x hx => depth_st 2 x (h.all x hx)
  refine ⟨by simp only [PyData.canLay0]; exact lay_rn r, ?_⟩
  simp only [PyData.depth]
  omega
theorem lay2_plan {nm : Nat} {pl : List Part} (h : PlOk nm 2 pl) : Lay2 52 (planD pl) := Lay2.tup fun x hx => by
  obtain ⟨p, hp, rfl⟩ := List.mem_map.mp hx
  exact Lay2.tup fun y hy => by
    simp at hy
    rcases hy with rfl | rfl
    · exact Lay2.str ((by decide +kernel : ∀ b, ∀ c ∈ sgn (wdS b), c ≤ 122) _)
    · exact lay2_run (h.g p hp).1
theorem lay2_ns (ns : List Nat) : Lay2 1 (nsD ns) := Lay2.tup fun x hx => by
  obtain ⟨n, _, rfl⟩ := List.mem_map.mp hx
  exact Lay2.int
theorem lay2_vd {kn : List Str} {mv : List Mv} {v : Vd} (h : VdOk kn mv v) : Lay2 56 (vdD v) := Lay2.tup fun x hx => by
  simp at hx
  rcases hx with rfl | rfl | rfl
  · refine Lay2.mono (a := 2) (Lay2.tup fun y hy => ?_) (by decide)
    simp at hy
    rcases hy with rfl | rfl <;> exact lay2_ns _
  · refine Lay2.mono (a := 54) (Lay2.tup fun y hy => ?_) (by decide)
    obtain ⟨t, ht, rfl⟩ := List.mem_map.mp hy
    refine Lay2.tup fun z hz => ?_
    simp at hz
    rcases hz with rfl | rfl
    · exact Lay2.mono (a := 1) (Lay2.tup fun y hy => by
        obtain ⟨n, _, rfl⟩ := List.mem_map.mp hy
        exact Lay2.int) (by decide)
    · exact lay2_plan (h.tp t ht).2.2.1
  · refine Lay2.mono (a := 54) (Lay2.tup fun y hy => ?_) (by decide)
    obtain ⟨a, ha, rfl⟩ := List.mem_map.mp hy
    have ok := h.ao a ha
    cases a with
    | most n r =>
      refine Lay2.tup fun z hz => ?_
      simp at hz
      rcases hz with rfl | rfl | rfl
      · exact Lay2.str (by decide +kernel)
      · exact Lay2.int
      · exact (lay2_run ok.2).mono (by decide)
    | fin pl =>
      refine Lay2.tup fun z hz => ?_
      simp at hz
      rcases hz with rfl | rfl
      · exact Lay2.str (by decide +kernel)
      · exact (lay2_plan ok.1).mono (by decide)
theorem shaped2 {d : PyData} {n : Nat} (h : Lay2 n d) (hn : n ≤ 60) : SeqAt.shaped d = true ∧ PyData.eqv d d = true := ⟨shaped_of ⟨h.1, Nat.le_trans h.2 hn⟩, SeqAt.eqv_refl _ h.1⟩
section
variable {P : Program} {w : World} {K : PySem.W.Frag} {mg : Str → Option Value} {base : Heap} {f T : Addr} {fd : FuncData} {Ps : List Addr}
abbrev slaw : Stmt := top 62
theorem sclaw : FnScope ["script", "draws", "book", "plan", "value", "lines"] ["script"] (defScope slaw) := ⟨rfl, rfl, rfl, by decide +kernel, rfl, by decide +kernel, by decide +kernel⟩
theorem ok_law (F : Fun K "law" "law" slaw f fd) (G : Glb mg)  (D__law_draws : Def P w K mg base "_law_draws" (3) ["script", "count"] (spA K Ps (g_draws K))) (D__law_book : Def P w K mg base "_law_book" (3) ["draws", "most"] (spA K Ps g__law_book)) (D__law_plan : Def P w K mg base "_law_plan" (8) ["draws", "book"] (spA K Ps g__law_plan)) (D__law_plan_text : Def P w K mg base "_law_plan_text" (8) ["book", "plan"] (spA K Ps g__law_plan_text)) (D__law_value : Def P w K mg base "_law_value" (9) ["draws", "book"] (spA K Ps g__law_value)) (D_print_plan : Def P w K mg base "print_plan" (14) ["book", "plan"] (spA K Ps g_print_plan)) (D_read_plan : Def P w K mg base "read_plan" (16) ["book", "text"] (spA K Ps g_read_plan)) (D_print_verdict : Def P w K mg base "print_verdict" (16) ["book", "verdict"] (spA K Ps g_print_verdict)) (D_read_verdict : Def P w K mg base "read_verdict" (19) ["book", "text"] (spA K Ps g_read_verdict)) : FnOk P w K mg base CX0 (20) f fd ["script"] (spA K Ps g_law) := by
  refine ok_fn F sclaw (fun cs Q' h => ?_) (by decide) fun cdv A outer s H E hr => ?_
  · obtain ⟨zs, rfl, hzs, h⟩ := h
    rfl
  have nd := sclaw.nd
  refine ⟨_, ?fs, (pss_cons (ps_set (i := 1) nd rfl (Or.inl rfl) (pe_c D__law_draws (hr.mono (by decide)) (pa_cons (pv 0) (pa_cons pe_int pa_nil))))
    (pss_cons (ps_set (i := 2) nd rfl (Or.inl rfl) (pe_c D__law_book (hr.mono (by decide)) (pa_cons (pv 1) (pa_cons pe_int pa_nil))))
    (pss_cons (ps_set (i := 3) nd rfl (Or.inl rfl) (pe_c D__law_plan (hr.mono (by decide)) (pa_cons (pv 1) (pa_cons (pv 2) pa_nil))))
    (pss_cons (ps_if (PW.pt (pw_or (pt_cmpR op_ne (pe_c D_print_plan (hr.mono (by decide)) (pa_cons (pv 2) (pa_cons (pv 3) pa_nil))) (pe_c D__law_plan_text (hr.mono (by decide)) (pa_cons (pv 2) (pa_cons (pv 3) pa_nil))) (nomark _)) (pw_or1 (pt_cmpR (op_neD hr.units) (pe_c D_read_plan (hr.mono (by decide)) (pa_cons (pv 2) (pa_cons (pe_c D__law_plan_text (hr.mono (by decide)) (pa_cons (pv 2) (pa_cons (pv 3) pa_nil))) pa_nil))) (pv 3) (nomark _))))) (pss_one (ps_ret pe_bl)) pss_nil)
    (pss_cons (ps_asg (pe_c D__law_value (hr.mono (by decide)) (pa_cons (pv 1) (pa_cons (pv 2) pa_nil))) (pg_pair (pg_tup (n := 2) (by rfl) (pgs_cons (pg_name (i := 4) nd rfl (Or.inl rfl)) (pgs_cons (pg_name (i := 5) nd rfl (Or.inl rfl)) pgs_nil)))))
    (pss_one (ps_ret (pe_and (pe_cmpR op_eq (pe_c D_print_verdict (hr.mono (by decide)) (pa_cons (pv 2) (pa_cons (pv 4) pa_nil))) (fe_join pe_str (pv 5)) (nomark _)) (pe_one (pe_cmpR (op_eqD hr.units) (pe_c D_read_verdict (hr.mono (by decide)) (pa_cons (pv 2) (pa_cons (fe_join pe_str (pv 5)) pa_nil))) (pv 4) (nomark _))))))))))), ?inst, fun cs Q' hg => ?body⟩
  case inst =>
    dsimp only [cxOf, Cx.nox, Cx.wish, List.map]
    infer_instance
  case body =>
    obtain ⟨zs, rfl, hzs, h⟩ := hg
    simp [and_assoc]
    refine ⟨zs, 420, rfl, hzs, by decide, by decide, ?_⟩
    simp [and_assoc]
    refine x_lbook ⟨by decide, by decide, fun kn mv hB => ?_⟩
    simp [and_assoc]
    refine ⟨kn, mv, rfl, hB, fun pl hpl hpl5 => ?_⟩
    have sp := shaped2 (lay2_plan hpl) (by decide)
    simp [and_assoc]
    refine ⟨kn, mv, pl, rfl, hB, hpl, hpl5, ?_⟩
    simp [and_assoc]
    refine ⟨kn, mv, pl, rfl, hB, hpl, hpl5, ?_⟩
    simp [and_assoc]
    refine ⟨kn, mv, pl, rfl, hB, hpl, hpl5, ?_⟩
    simp [and_assoc]
    refine ⟨kn, mv, pl, rfl, hB, hpl, hpl5, ?_⟩
    simp [and_assoc, sp]
    refine ⟨kn, mv, rfl, hB, fun v hv => ?_⟩
    have sv := shaped2 (lay2_vd hv) (by decide)
    have hlb := vd_lines hB hv
    simp only [res_x]
    refine x_pairG ⟨rfl, rfl, ?_⟩
    simp [and_assoc]
    refine ⟨kn, mv, v, rfl, hB, hv, ?_⟩
    have et : Txt.join (Str.ofString "\n") (vdLines kn mv v) = vdT kn mv v := rfl
    simp [and_assoc, et]
    refine ⟨hlb.2, kn, mv, v, rfl, hB, hv, ?_⟩
    simp [and_assoc, sv]
    exact h
end
end Fw


namespace Mint
open PySem PySem.Spec PyProof.Rows L2 GxR Gx Gy RZ

/-! ### all of it together -/
/-- the def's code object and its table, as the program's top has left them -/
def TabOf (K : PySem.W.Frag) (fa : Addr) (h : Heap) : Prop :=
  ∀ (o : Obj) (fd : FuncData) (c P : Addr) (e : Value) (dd : Option Addr) (vs : Array Value) (sl : Array (Option Value)), K.lookup fa = some o ∧ o.data = .func fd ∧ fd.code = .ref c ∧ K.lookup c = some ⟨e, dd, .fields vs, sl⟩ ∧ vs[11]? = some (.ref P) →
    h.get? P = some { cls := .none, data := .fields #[] } ∧ PySem.W.CodeHd h c P
theorem tabOf_of {K : PySem.W.Frag} {fa a' c' P' : Addr} {o' : Obj} {fd' : FuncData} {h : Heap} {mg : Str → Option Value} {x : Str} (KX : K.In h) (hmg : mg x = some (.ref fa)) (g1 : mg x = some (.ref a')) (g2 : h.get? a' = some o') (g3 : o'.data = .func fd') (g4 : fd'.code = .ref c') (g5 : h.IsCode c' P' #[]) (g6 : h.TableAt c' P' #[]) : TabOf K fa h := by
  intro o fd c P e dd vs sl q
  obtain ⟨q1, q2, q3, q4, q5⟩ := q
  have e1 := KX _ _ q1
  have e2 := KX _ _ q4
  cases g1.symm.trans hmg
  cases g2.symm.trans e1
  cases g3.symm.trans q2
  cases g4.symm.trans q3
  have hd := PySem.W.CodeHd.of g5 g6
  obtain ⟨⟨oc, vc, u1, _, u3, u4⟩, hP⟩ := g6
  cases u1.symm.trans e2
  cases u3
  cases u4.symm.trans q5
  exact ⟨hP, hd⟩
theorem walkM {l : PySem.W.OpenLaw} {n k : Nat} {q : Program} {loose : List Str} {XP : (Str → Option Value) → Heap → Prop} {YP : World → Heap → Prop} {d : DefRec} {K : Params → PySem.W.Frag} (names : List Str)
    (hn : l.most = some n) (hs : n ≤ sizeLine) (hdf : d.params.defaults = []) (hr : Room k callerA) (hnames : ∀ x ∈ names, ((recsOf q).any fun e => e.name == x) = true) (hY : ∀ (w : World) (h : Heap), YP w h → (K w.params).In h)
    (F : ∀ (w : World) (mg : Str → Option Value) (fa : Addr) (h : Heap), (K w.params).In h → h.Ns mainGlobals mg → mg d.name = some (.ref fa) → (∀ x ∈ names, ∀ fb, mg x = some (.ref fb) → TabOf (K w.params) fb h) → LamX.LawAtS l w (K w.params) CX0 k n "script" mg fa h) :
    PySem.W.WalkO q loose XP YP l.row.toRowW d [] (fun f vs => PySem.call f vs) := by
  refine Att.attach_callB hn hdf ?_
  intro w s0 s1 mg mb fa o pm cd doc a vs ns G Y _ _ _ hmg hobj hints hlen hbits hg
  have KX := hY w _ Y
  have own : ∀ x ∈ names, ∀ fb, mg x = some (.ref fb) → TabOf (K w.params) fb s1.heap := fun x hx fb hfb => by
    obtain ⟨dL, hm, hd⟩ := List.any_eq_true.mp (hnames x hx)
    obtain ⟨a', o', fd', c', P', g1, g2, g3, g4, g5, g6⟩ := G.T.tab dL hm
    rw [beq_iff_eq.mp hd] at g1
    exact tabOf_of KX hfb g1 g2 g3 g4 g5 g6
  obtain ⟨fd, cs, sp, c1, c2, c3, c4, c5, c6⟩ := F w mg fa _ KX G.T.g hmg own
  exact LamX.law_callTs (CX := CX0) KX G.T.g G.T.b G.T.builtins G.T.nolimit hg c1 c2 c3 G.T.bmain hobj hints (Nat.le_trans hlen hs) hr c6 c4 (fun H h1 h2 => c5 H a ns hlen hbits h1 h2) fun _ _ _ z => z
structure At (K : PySem.W.Frag) (mg : Str → Option Value) (x : Str) (st : Stmt) : Prop where
  ex : ∃ (f : Addr) (fd : FuncData), mg x = some (.ref f) ∧ Fun K x x st f fd
structure AtC (K : PySem.W.Frag) (mg : Str → Option Value) (h : Heap) (x : Str) (st : Stmt) (c P : Addr) : Prop where
  ex : ∃ (f : Addr) (fd : FuncData), mg x = some (.ref f) ∧ FunC K x x st f fd c ∧ h.get? P = some { cls := .none, data := .fields #[] } ∧ K.lookup P = none ∧ PySem.W.CodeHd h c P
theorem at_mk {K : PySem.W.Frag} {h : Heap} {mg : Str → Option Value} {x : Str} {st : Stmt} {f : Addr} {oc : Value} {od an : Option Addr} {osl : Array (Option Value)} {kV doc pm cdv ct : Value} (X : K.In h) (G : h.Ns mainGlobals mg) (a : PySem.W.nsIn K mainGlobals x = some (some (.ref f)))
    (l : K.lookup f = some ⟨oc, od, .func (PySem.W.fnOf x x (defArgs st) (defBody st) (defScope st) .none kV doc pm an cdv ct), osl⟩) (c : PySem.W.codeIn K cdv x = true) (k : PySem.W.keepIn K (.ref f) = true) : At K mg x st := ⟨f, _, PySem.W.mg_of X G a, fun_mk l c k⟩
theorem atC_mk {K : PySem.W.Frag} {h : Heap} {mg : Str → Option Value} {x : Str} {st : Stmt} {f cA P : Addr} {oc e : Value} {od an dd : Option Addr} {osl sl : Array (Option Value)} {vs : Array Value} {kV doc pm ct : Value} (X : K.In h) (G : h.Ns mainGlobals mg)
    (T : ∀ fb, mg x = some (.ref fb) → TabOf K fb h) (a : PySem.W.nsIn K mainGlobals x = some (some (.ref f)))
    (l : K.lookup f = some ⟨oc, od, .func (PySem.W.fnOf x x (defArgs st) (defBody st) (defScope st) .none kV doc pm an (.ref cA) ct), osl⟩) (c : PySem.W.codeIn K (.ref cA) x = true) (k : PySem.W.keepIn K (.ref f) = true)
    (l2 : K.lookup cA = some ⟨e, dd, .fields vs, sl⟩) (hP : vs[11]? = some (.ref P)) (nP : K.lookup P = none) : AtC K mg h x st cA P :=
  have m := PySem.W.mg_of X G a
  have t := T f m _ _ cA P e dd vs sl ⟨l, rfl, rfl, l2, hP⟩
  ⟨f, _, m, funC_mk l c k, t.1, nP, t.2⟩
theorem mkDef {P : Program} {w : World} {K : PySem.W.Frag} {mg : Str → Option Value} {base : Heap} {x : Str} {k : Nat} {ps : List Str} {sp : Sp} {f : Addr} {fd : FuncData} (F : FnOk P w K mg base CX0 k f fd ps sp) (m : mg x = some (.ref f)) (kp : PySem.W.keepIn K (.ref f) = true) (b : Binds K fd ps []) : Def P w K mg base x k ps sp := ⟨f, fd, F, m, kp, b⟩
theorem conv {base : Heap} {mg : Str → Option Value} {p : Addr × Addr} (t : LamX.TabB base mg p.1 p.2) : GxR.TabB base mg p.1 p.2 := ⟨t.code, t.bm, t.gP⟩
theorem more {P : Program} {w : World} {K : PySem.W.Frag} {mg : Str → Option Value} {base : Heap} {k : Nat} {f : Addr} {fd : FuncData} {ps : List Str} {Ps Ps' : List Addr} {g : Fw.GF K} (F : FnOk P w K mg base CX0 k f fd ps (Fw.spA K Ps g)) (h : ∀ p ∈ Ps, p ∈ Ps') : FnOk P w K mg base CX0 k f fd ps (Fw.spA K Ps' g) :=
  F.imp fun vs H Q E ⟨cs, Ls, Q', a, b, c, d⟩ => ⟨cs, Ls, Q', a, b, fun p hp => c p (h p hp), d⟩
theorem ok_void {P : Program} {w : World} {K : PySem.W.Frag} {mg : Str → Option Value} {base : Heap} {k : Nat} {f : Addr} {fd : FuncData} {ps : List Str} {Ps : List Addr} {g : Fw.GF K} (hv : ∀ cs Q, ¬ g cs Q) : FnOk P w K mg base CX0 k f fd ps (Fw.spA K Ps g) :=
  have no : ∀ vs H Q E, ¬ Fw.spA K Ps g vs H Q E := fun vs H Q E ⟨cs, Ls, Q', _, _, _, h, _⟩ => hv cs Q' h
  ⟨fun vs H Q E h => absurd h (no vs H Q E), fun A outer s H args us vs Q E _ _ _ _ h => absurd h (no vs H Q E)⟩
def spLaw (K : PySem.W.Frag) (Ps : List Addr) : Sp := fun vs H Q _ => ∃ (a : Addr) (zs : List Int), vs = [.ref a] ∧ SqL K H a (zs.map V.int) ∧ zs.length ≤ 63 ∧ Tabs Ps H ∧ ∀ H', Q (.bl true) H'
theorem law_end {P : Program} {w : World} {K : PySem.W.Frag} {mg : Str → Option Value} {base : Heap} {k : Nat} {f : Addr} {fd : FuncData} {ps : List Str} {Ps : List Addr} (F : FnOk P w K mg base CX0 k f fd ps (Fw.spA K Ps Fw.g_law)) : FnOk P w K mg base CX0 k f fd ps (spLaw K Ps) := F.imp fun vs H Q E ⟨a, zs, e, hS, hl, hT, q⟩ => by
  subst e
  obtain ⟨L, hL⟩ := Fw.script_of hS
  refine ⟨[.x (Fw.scriptO K zs)], [L], fun c _ => c = .d (.bool true), .cons hL .nil, List.pairwise_singleton _ _, hT, ⟨zs, rfl, hl, rfl⟩, fun v H' c cs' G _ _ r _ hc => ?_⟩
  subst hc
  have r1 := r.1
  cases r1
  exact q H'
theorem law_at {l : PySem.W.OpenLaw} {w : World} {K : PySem.W.Frag} {h : Heap} {mg : Str → Option Value} {fa : Addr} (C : Cst K mg) (G : Glb mg) (G1 : Glb1 K mg) (hBy : ∃ t, mg "BY" = some (.str Fw.byS t)) (hTop : ∃ t, mg "TOP" = some (.str Fw.topS t)) (hGr : ∃ t, mg "GREATEST_NUMBER" = some (.int (10 ^ 40) t)) (hfa : mg "law" = some (.ref fa)) (AL : At K mg "law" Fw.slaw)
    (A20 : At K mg "print_number" sPrintN)
    (A21 : At K mg "move_index" sIndex)
    (A22 : At K mg "print_stock" sStockP)
    (A23 : At K mg "print_items" sItemsP)
    (A24 : At K mg "print_entry" sEntryP)
    (A25 : At K mg "read_range" sRange)
    (A26 : At K mg "word_at" sWord)
    (A27 : At K mg "_law_mix" sMix)
    (A28 : At K mg "_law_numbers" sNumbers)
    (A29 : At K mg "_law_draws" sDraws)
    (A30 : At K mg "_law_take" sTake)
    (A31 : At K mg "print_run" Fw.sprint_run)
    (A32 : At K mg "print_step" Fw.sprint_step)
    (A33 : At K mg "read_extended" Fw.sread_extended)
    (A34 : At K mg "read_entries" Fw.sread_entries)
    (A35 : At K mg "read_ranges" Fw.sread_ranges)
    (A36 : At K mg "read_items" Fw.sread_items)
    (A37 : At K mg "read_run" Fw.sread_run)
    (A38 : At K mg "read_steps" Fw.sread_steps)
    (A39 : At K mg "read_step" Fw.sread_step)
    (A40 : At K mg "_law_named" Fw.s_law_named)
    (A41 : At K mg "_law_stock" Fw.s_law_stock)
    (A42 : At K mg "_law_book" Fw.s_law_book)
    (A43 : At K mg "_law_run" Fw.s_law_run)
    (A44 : At K mg "_law_run_text" Fw.s_law_run_text)
    (A45 : At K mg "print_plan" Fw.sprint_plan)
    (A46 : At K mg "print_verdict" Fw.sprint_verdict)
    (A47 : At K mg "print_numbers" Fw.sprint_numbers)
    (A48 : At K mg "print_answer" Fw.sprint_answer)
    (A49 : At K mg "read_plan" Fw.sread_plan)
    (A50 : At K mg "read_part" Fw.sread_part)
    (A51 : At K mg "read_verdict" Fw.sread_verdict)
    (A52 : At K mg "tops_among" Fw.stops_among)
    (A53 : At K mg "read_line" Fw.sread_line)
    (A54 : At K mg "read_numbers" Fw.sread_numbers)
    (A55 : At K mg "parted_by" Fw.sparted_by)
    (A56 : At K mg "read_top" Fw.sread_top)
    (A57 : At K mg "read_answer" Fw.sread_answer)
    (A58 : At K mg "_law_stock_text" Fw.s_law_stock_text)
    (A59 : At K mg "_law_plan" Fw.s_law_plan)
    (A60 : At K mg "_law_plan_text" Fw.s_law_plan_text)
    (A61 : At K mg "_law_number" Fw.s_law_number)
    (A62 : At K mg "_law_value" Fw.s_law_value)
    {c0 P0 : Addr} (T0 : AtC K mg h "read_number" sReadN c0 P0) : LamX.LawAtS l w K CX0 20 63 "script" mg fa h := by
  obtain ⟨f20, fd20, m20, F20⟩ := A20.ex
  have b20 := F20.binds (ps := ["number"]) fun _ _ _ _ _ _ us hl => match us, hl with | [_], _ => rfl
  obtain ⟨f21, fd21, m21, F21⟩ := A21.ex
  have b21 := F21.binds (ps := ["book", "name"]) fun _ _ _ _ _ _ us hl => match us, hl with | [_, _], _ => rfl
  obtain ⟨f22, fd22, m22, F22⟩ := A22.ex
  have b22 := F22.binds (ps := ["book", "stock"]) fun _ _ _ _ _ _ us hl => match us, hl with | [_, _], _ => rfl
  obtain ⟨f23, fd23, m23, F23⟩ := A23.ex
  have b23 := F23.binds (ps := ["items"]) fun _ _ _ _ _ _ us hl => match us, hl with | [_], _ => rfl
  obtain ⟨f24, fd24, m24, F24⟩ := A24.ex
  have b24 := F24.binds (ps := ["entry"]) fun _ _ _ _ _ _ us hl => match us, hl with | [_], _ => rfl
  obtain ⟨f25, fd25, m25, F25⟩ := A25.ex
  have b25 := F25.binds (ps := ["word", "most"]) fun _ _ _ _ _ _ us hl => match us, hl with | [_, _], _ => rfl
  obtain ⟨f26, fd26, m26, F26⟩ := A26.ex
  have b26 := F26.binds (ps := ["text", "at"]) fun _ _ _ _ _ _ us hl => match us, hl with | [_, _], _ => rfl
  obtain ⟨f27, fd27, m27, F27⟩ := A27.ex
  have b27 := F27.binds (ps := ["first", "second"]) fun _ _ _ _ _ _ us hl => match us, hl with | [_, _], _ => rfl
  obtain ⟨f28, fd28, m28, F28⟩ := A28.ex
  have b28 := F28.binds (ps := ["script", "count"]) fun _ _ _ _ _ _ us hl => match us, hl with | [_, _], _ => rfl
  obtain ⟨f29, fd29, m29, F29⟩ := A29.ex
  have b29 := F29.binds (ps := ["script", "count"]) fun _ _ _ _ _ _ us hl => match us, hl with | [_, _], _ => rfl
  obtain ⟨f30, fd30, m30, F30⟩ := A30.ex
  have b30 := F30.binds (ps := ["draws", "bound"]) fun _ _ _ _ _ _ us hl => match us, hl with | [_, _], _ => rfl
  obtain ⟨f31, fd31, m31, F31⟩ := A31.ex
  have b31 := F31.binds (ps := ["book", "run"]) fun _ _ _ _ _ _ us hl => match us, hl with | [_, _], _ => rfl
  obtain ⟨f32, fd32, m32, F32⟩ := A32.ex
  have b32 := F32.binds (ps := ["book", "step"]) fun _ _ _ _ _ _ us hl => match us, hl with | [_, _], _ => rfl
  obtain ⟨f33, fd33, m33, F33⟩ := A33.ex
  have b33 := F33.binds (ps := ["book", "text"]) fun _ _ _ _ _ _ us hl => match us, hl with | [_, _], _ => rfl
  obtain ⟨f34, fd34, m34, F34⟩ := A34.ex
  have b34 := F34.binds (ps := ["kinds", "text", "most"]) fun _ _ _ _ _ _ us hl => match us, hl with | [_, _, _], _ => rfl
  obtain ⟨f35, fd35, m35, F35⟩ := A35.ex
  have b35 := F35.binds (ps := ["kinds", "text", "most"]) fun _ _ _ _ _ _ us hl => match us, hl with | [_, _, _], _ => rfl
  obtain ⟨f36, fd36, m36, F36⟩ := A36.ex
  have b36 := F36.binds (ps := ["kinds", "text"]) fun _ _ _ _ _ _ us hl => match us, hl with | [_, _], _ => rfl
  obtain ⟨f37, fd37, m37, F37⟩ := A37.ex
  have b37 := F37.binds (ps := ["book", "text"]) fun _ _ _ _ _ _ us hl => match us, hl with | [_, _], _ => rfl
  obtain ⟨f38, fd38, m38, F38⟩ := A38.ex
  have b38 := F38.binds (ps := ["book", "text", "at", "depth"]) fun _ _ _ _ _ _ us hl => match us, hl with | [_, _, _, _], _ => rfl
  obtain ⟨f39, fd39, m39, F39⟩ := A39.ex
  have b39 := F39.binds (ps := ["book", "text", "at", "depth"]) fun _ _ _ _ _ _ us hl => match us, hl with | [_, _, _, _], _ => rfl
  obtain ⟨f40, fd40, m40, F40⟩ := A40.ex
  have b40 := F40.binds (ps := ["draws"]) fun _ _ _ _ _ _ us hl => match us, hl with | [_], _ => rfl
  obtain ⟨f41, fd41, m41, F41⟩ := A41.ex
  have b41 := F41.binds (ps := ["draws", "n", "most"]) fun _ _ _ _ _ _ us hl => match us, hl with | [_, _, _], _ => rfl
  obtain ⟨f42, fd42, m42, F42⟩ := A42.ex
  have b42 := F42.binds (ps := ["draws", "most"]) fun _ _ _ _ _ _ us hl => match us, hl with | [_, _], _ => rfl
  obtain ⟨f43, fd43, m43, F43⟩ := A43.ex
  have b43 := F43.binds (ps := ["draws", "moves", "depth", "times"]) fun _ _ _ _ _ _ us hl => match us, hl with | [_, _, _, _], _ => rfl
  obtain ⟨f44, fd44, m44, F44⟩ := A44.ex
  have b44 := F44.binds (ps := ["book", "run"]) fun _ _ _ _ _ _ us hl => match us, hl with | [_, _], _ => rfl
  obtain ⟨f45, fd45, m45, F45⟩ := A45.ex
  have b45 := F45.binds (ps := ["book", "plan"]) fun _ _ _ _ _ _ us hl => match us, hl with | [_, _], _ => rfl
  obtain ⟨f46, fd46, m46, F46⟩ := A46.ex
  have b46 := F46.binds (ps := ["book", "verdict"]) fun _ _ _ _ _ _ us hl => match us, hl with | [_, _], _ => rfl
  obtain ⟨f47, fd47, m47, F47⟩ := A47.ex
  have b47 := F47.binds (ps := ["word", "numbers"]) fun _ _ _ _ _ _ us hl => match us, hl with | [_, _], _ => rfl
  obtain ⟨f48, fd48, m48, F48⟩ := A48.ex
  have b48 := F48.binds (ps := ["book", "kind", "answer"]) fun _ _ _ _ _ _ us hl => match us, hl with | [_, _, _], _ => rfl
  obtain ⟨f49, fd49, m49, F49⟩ := A49.ex
  have b49 := F49.binds (ps := ["book", "text"]) fun _ _ _ _ _ _ us hl => match us, hl with | [_, _], _ => rfl
  obtain ⟨f50, fd50, m50, F50⟩ := A50.ex
  have b50 := F50.binds (ps := ["book", "text"]) fun _ _ _ _ _ _ us hl => match us, hl with | [_, _], _ => rfl
  obtain ⟨f51, fd51, m51, F51⟩ := A51.ex
  have b51 := F51.binds (ps := ["book", "text"]) fun _ _ _ _ _ _ us hl => match us, hl with | [_, _], _ => rfl
  obtain ⟨f52, fd52, m52, F52⟩ := A52.ex
  have b52 := F52.binds (ps := ["lines"]) fun _ _ _ _ _ _ us hl => match us, hl with | [_], _ => rfl
  obtain ⟨f53, fd53, m53, F53⟩ := A53.ex
  have b53 := F53.binds (ps := ["book", "tops", "at", "line"]) fun _ _ _ _ _ _ us hl => match us, hl with | [_, _, _, _], _ => rfl
  obtain ⟨f54, fd54, m54, F54⟩ := A54.ex
  have b54 := F54.binds (ps := ["word", "many", "line"]) fun _ _ _ _ _ _ us hl => match us, hl with | [_, _, _], _ => rfl
  obtain ⟨f55, fd55, m55, F55⟩ := A55.ex
  have b55 := F55.binds (ps := ["book", "text"]) fun _ _ _ _ _ _ us hl => match us, hl with | [_, _], _ => rfl
  obtain ⟨f56, fd56, m56, F56⟩ := A56.ex
  have b56 := F56.binds (ps := ["book", "line"]) fun _ _ _ _ _ _ us hl => match us, hl with | [_, _], _ => rfl
  obtain ⟨f57, fd57, m57, F57⟩ := A57.ex
  have b57 := F57.binds (ps := ["book", "kind", "line"]) fun _ _ _ _ _ _ us hl => match us, hl with | [_, _, _], _ => rfl
  obtain ⟨f58, fd58, m58, F58⟩ := A58.ex
  have b58 := F58.binds (ps := ["book", "stock"]) fun _ _ _ _ _ _ us hl => match us, hl with | [_, _], _ => rfl
  obtain ⟨f59, fd59, m59, F59⟩ := A59.ex
  have b59 := F59.binds (ps := ["draws", "book"]) fun _ _ _ _ _ _ us hl => match us, hl with | [_, _], _ => rfl
  obtain ⟨f60, fd60, m60, F60⟩ := A60.ex
  have b60 := F60.binds (ps := ["book", "plan"]) fun _ _ _ _ _ _ us hl => match us, hl with | [_, _], _ => rfl
  obtain ⟨f61, fd61, m61, F61⟩ := A61.ex
  have b61 := F61.binds (ps := ["draws"]) fun _ _ _ _ _ _ us hl => match us, hl with | [_], _ => rfl
  obtain ⟨f62, fd62, m62, F62⟩ := A62.ex
  have b62 := F62.binds (ps := ["draws", "book"]) fun _ _ _ _ _ _ us hl => match us, hl with | [_, _], _ => rfl
  obtain ⟨f0, fd0, m0, G_0, t0, n0, h0⟩ := T0.ex
  have F0 := G_0.fun
  have b0 := F0.binds (ps := ["word", "most"]) fun _ _ _ _ _ _ us hl => match us, hl with | [_, _], _ => rfl
  obtain ⟨f', fd', m', F'⟩ := AL.ex
  cases m'.symm.trans hfa
  have bnd : ∀ (s : Shared) (u : Value), BindsTo s fd' ⟨[u], []⟩ [("script", u)] := by
    obtain ⟨_, _, _, _, _, _, _, _, _, e, _⟩ := F'.ex
    subst e
    exact fun s u => .of_eq rfl
  refine ⟨fd', [(c0, P0)], spLaw K [P0], ?_, ?_, ?_, bnd, ?_, ?_⟩
  · intro p hp
    simp only [List.mem_cons, List.not_mem_nil, or_false] at hp
    rcases hp with rfl
    · exact t0
  · intro p hp
    simp only [List.mem_cons, List.not_mem_nil, or_false] at hp
    rcases hp with rfl
    · exact n0
  · intro p hp
    simp only [List.mem_cons, List.not_mem_nil, or_false] at hp
    rcases hp with rfl
    · exact h0
  · intro H a ns hl _ hT hS
    refine ⟨a, ns, rfl, hS, hl, fun P hP => ?_, fun _ => rfl⟩
    have hp : ∃ p ∈ ([(c0, P0)] : List (Addr × Addr)), p.2 = P := by
      simp only [List.mem_cons, List.not_mem_nil, or_false] at hP
      exact ⟨(c0, P0), by simp, hP.symm⟩
    obtain ⟨p, hp, rfl⟩ := hp
    exact ⟨#[], hT p hp, by simp [TriplesOk]⟩
  intro base _ _ hb
  have B0 : GxR.TabB base mg c0 P0 := conv (hb (c0, P0) (by simp))
  have DPn := mkDef (ok_printN (P := l.prog) (w := w) (base := base) F20 G G1) m20 F20.kp b20
  have DEp := mkDef (ok_entryP (P := l.prog) (w := w) (base := base) F24 G1 DPn) m24 F24.kp b24
  have DIt := mkDef (ok_itemsP (P := l.prog) (w := w) (base := base) F23 ) m23 F23.kp b23
  have DRn := mkDef (ok_readN (P := l.prog) (w := w) (base := base) G_0 G G1 B0) m0 F0.kp b0
  have N_pn := mkDef (Fw.br_print_number (Ps := [P0]) (ok_printN (P := l.prog) (w := w) (base := base) F20 G G1)) m20 F20.kp b20
  have N_it := mkDef (Fw.br_print_items (Ps := [P0]) (ok_itemsP (P := l.prog) (w := w) (base := base) F23 )) m23 F23.kp b23
  have N_ps := mkDef (Fw.br_print_stock (Ps := [P0]) (ok_stockP (P := l.prog) (w := w) (base := base) F22 G DEp DIt)) m22 F22.kp b22
  have N_wa := mkDef (Fw.br_word_at (Ps := [P0]) (ok_word (P := l.prog) (w := w) (base := base) F26 G C)) m26 F26.kp b26
  have N_ix := mkDef (Fw.br_move_index (Ps := [P0]) (ok_index (P := l.prog) (w := w) (base := base) F21 G)) m21 F21.kp b21
  have N_rn := mkDef (more (Ps' := [P0]) (Fw.br_read_number (ok_readN (P := l.prog) (w := w) (base := base) G_0 G G1 B0)) (by simp)) m0 F0.kp b0
  have N_rr := mkDef (more (Ps' := [P0]) (Fw.br_read_range (ok_range (P := l.prog) (w := w) (base := base) F25 G1 DRn)) (by simp)) m25 F25.kp b25
  have DMi := mkDef (ok_mix (P := l.prog) (w := w) (base := base) F27 G) m27 F27.kp b27
  have DNu := mkDef (ok_numbers (P := l.prog) (w := w) (base := base) F28 G DMi) m28 F28.kp b28
  have N_dr := mkDef (Fw.ok_drawsF (Ps := [P0]) (ok_draws (P := l.prog) (w := w) (base := base) F29 G DNu)) m29 F29.kp b29
  have N_tk := mkDef (Fw.ok_takeF (Ps := [P0]) (P := l.prog) (w := w) (base := base) F30 G) m30 F30.kp b30
  have N_st := mkDef (Fw.ok__law_stock (Ps := [P0]) (P := l.prog) (w := w) (base := base) F41 G N_tk) m41 F41.kp b41
  have N_nm := mkDef (Fw.ok__law_named (Ps := [P0]) (P := l.prog) (w := w) (base := base) F40 G N_tk) m40 F40.kp b40
  have N_bk := mkDef (Fw.ok__law_book (Ps := [P0]) (P := l.prog) (w := w) (base := base) F42 G N_tk N_st N_nm) m42 F42.kp b42
  have L0 := mkDef (ok_void (P := l.prog) (w := w) (base := base) (k := 2) (Ps := [P0]) (g := Fw.g__law_run 0) fun cs Q h => by obtain ⟨_, _, _, _, h, _⟩ := h; exact absurd h (Nat.not_lt_zero _)) m43 F43.kp b43
  have L1 := mkDef (Fw.ok__law_run (P := l.prog) (w := w) (base := base) F43 G (by decide) N_tk L0) m43 F43.kp b43
  have L2 := mkDef (Fw.ok__law_run (P := l.prog) (w := w) (base := base) F43 G (by decide) N_tk L1) m43 F43.kp b43
  have L3 := mkDef (Fw.ok__law_run (P := l.prog) (w := w) (base := base) F43 G (by decide) N_tk L2) m43 F43.kp b43
  have L4 := mkDef (Fw.ok__law_run (P := l.prog) (w := w) (base := base) F43 G (by decide) N_tk L3) m43 F43.kp b43
  have L5 := mkDef (Fw.ok__law_run (P := l.prog) (w := w) (base := base) F43 G (by decide) N_tk L4) m43 F43.kp b43
  have X0 := mkDef (ok_void (P := l.prog) (w := w) (base := base) (k := 2) (Ps := [P0]) (g := Fw.g__law_run_text 0) fun cs Q h => by obtain ⟨_, _, _, _, _, _, h, _⟩ := h; exact absurd h (Nat.not_lt_zero _)) m44 F44.kp b44
  have X1 := mkDef (Fw.ok__law_run_text (P := l.prog) (w := w) (base := base) F44 G (by decide) X0) m44 F44.kp b44
  have X2 := mkDef (Fw.ok__law_run_text (P := l.prog) (w := w) (base := base) F44 G (by decide) X1) m44 F44.kp b44
  have X3 := mkDef (Fw.ok__law_run_text (P := l.prog) (w := w) (base := base) F44 G (by decide) X2) m44 F44.kp b44
  have X4 := mkDef (Fw.ok__law_run_text (P := l.prog) (w := w) (base := base) F44 G (by decide) X3) m44 F44.kp b44
  have X5 := mkDef (Fw.ok__law_run_text (P := l.prog) (w := w) (base := base) F44 G (by decide) X4) m44 F44.kp b44
  have S0 := mkDef (ok_void (P := l.prog) (w := w) (base := base) (k := 2) (Ps := [P0]) (g := Fw.g_print_step 0) fun cs Q h => by obtain ⟨_, _, _, _, _, _, h, _⟩ := h; exact absurd h (Nat.not_lt_zero _)) m32 F32.kp b32
  have R0 := mkDef (Fw.ok_print_run (P := l.prog) (w := w) (base := base) F31 G (by decide) S0) m31 F31.kp b31
  have S1 := mkDef (Fw.ok_print_step (P := l.prog) (w := w) (base := base) F32 G (by decide) N_pn R0) m32 F32.kp b32
  have R1 := mkDef (Fw.ok_print_run (P := l.prog) (w := w) (base := base) F31 G (by decide) S1) m31 F31.kp b31
  have S2 := mkDef (Fw.ok_print_step (P := l.prog) (w := w) (base := base) F32 G (by decide) N_pn R1) m32 F32.kp b32
  have R2 := mkDef (Fw.ok_print_run (P := l.prog) (w := w) (base := base) F31 G (by decide) S2) m31 F31.kp b31
  have S3 := mkDef (Fw.ok_print_step (P := l.prog) (w := w) (base := base) F32 G (by decide) N_pn R2) m32 F32.kp b32
  have R3 := mkDef (Fw.ok_print_run (P := l.prog) (w := w) (base := base) F31 G (by decide) S3) m31 F31.kp b31
  have S4 := mkDef (Fw.ok_print_step (P := l.prog) (w := w) (base := base) F32 G (by decide) N_pn R3) m32 F32.kp b32
  have R4 := mkDef (Fw.ok_print_run (P := l.prog) (w := w) (base := base) F31 G (by decide) S4) m31 F31.kp b31
  have S5 := mkDef (Fw.ok_print_step (P := l.prog) (w := w) (base := base) F32 G (by decide) N_pn R4) m32 F32.kp b32
  have R5 := mkDef (Fw.ok_print_run (P := l.prog) (w := w) (base := base) F31 G (by decide) S5) m31 F31.kp b31
  have N_ri := mkDef (Fw.ok_read_items (Ps := [P0]) (P := l.prog) (w := w) (base := base) F36 G) m36 F36.kp b36
  have N_rs := mkDef (Fw.ok_read_ranges (Ps := [P0]) (P := l.prog) (w := w) (base := base) F35 G N_ri N_rr) m35 F35.kp b35
  have N_re := mkDef (Fw.ok_read_entries (Ps := [P0]) (P := l.prog) (w := w) (base := base) F34 G G1 N_rs) m34 F34.kp b34
  have N_rx := mkDef (Fw.ok_read_extended (Ps := [P0]) (P := l.prog) (w := w) (base := base) F33 G G1 N_re) m33 F33.kp b33
  have U0 := mkDef (ok_void (P := l.prog) (w := w) (base := base) (k := 2) (Ps := [P0]) (g := Fw.g_read_step 0) fun cs Q h => by obtain ⟨_, _, _, _, _, _, _, _, _, _, h, _⟩ := h; exact absurd h (Nat.not_lt_zero _)) m39 F39.kp b39
  have V0 := mkDef (Fw.ok_read_steps (P := l.prog) (w := w) (base := base) F38 G (by decide) U0) m38 F38.kp b38
  have U1 := mkDef (Fw.ok_read_step (P := l.prog) (w := w) (base := base) F39 G (by decide) G1 N_wa N_ix N_rn V0) m39 F39.kp b39
  have V1 := mkDef (Fw.ok_read_steps (P := l.prog) (w := w) (base := base) F38 G (by decide) U1) m38 F38.kp b38
  have U2 := mkDef (Fw.ok_read_step (P := l.prog) (w := w) (base := base) F39 G (by decide) G1 N_wa N_ix N_rn V1) m39 F39.kp b39
  have V2 := mkDef (Fw.ok_read_steps (P := l.prog) (w := w) (base := base) F38 G (by decide) U2) m38 F38.kp b38
  have U3 := mkDef (Fw.ok_read_step (P := l.prog) (w := w) (base := base) F39 G (by decide) G1 N_wa N_ix N_rn V2) m39 F39.kp b39
  have V3 := mkDef (Fw.ok_read_steps (P := l.prog) (w := w) (base := base) F38 G (by decide) U3) m38 F38.kp b38
  have U4 := mkDef (Fw.ok_read_step (P := l.prog) (w := w) (base := base) F39 G (by decide) G1 N_wa N_ix N_rn V3) m39 F39.kp b39
  have V4 := mkDef (Fw.ok_read_steps (P := l.prog) (w := w) (base := base) F38 G (by decide) U4) m38 F38.kp b38
  have U5 := mkDef (Fw.ok_read_step (P := l.prog) (w := w) (base := base) F39 G (by decide) G1 N_wa N_ix N_rn V4) m39 F39.kp b39
  have V5 := mkDef (Fw.ok_read_steps (P := l.prog) (w := w) (base := base) F38 G (by decide) U5) m38 F38.kp b38
  have N_ru := mkDef (Fw.ok_read_run (Ps := [P0]) (P := l.prog) (w := w) (base := base) F37 G C V5) m37 F37.kp b37
  have N_pp := mkDef (Fw.ok_print_plan (Ps := [P0]) (P := l.prog) (w := w) (base := base) F45 G R5) m45 F45.kp b45
  have N_pns := mkDef (Fw.ok_print_numbers (Ps := [P0]) (P := l.prog) (w := w) (base := base) F47 G N_pn) m47 F47.kp b47
  have N_pa := mkDef (Fw.ok_print_answer (Ps := [P0]) (P := l.prog) (w := w) (base := base) F48 G hBy N_pp N_pn R5) m48 F48.kp b48
  have N_pv := mkDef (Fw.ok_print_verdict (Ps := [P0]) (P := l.prog) (w := w) (base := base) F46 G hBy hTop N_pns N_ps N_pp N_pa) m46 F46.kp b46
  have N_rpa := mkDef (Fw.ok_read_part (Ps := [P0]) (P := l.prog) (w := w) (base := base) F50 G N_ru) m50 F50.kp b50
  have N_rpl := mkDef (Fw.ok_read_plan (Ps := [P0]) (P := l.prog) (w := w) (base := base) F49 G N_rpa) m49 F49.kp b49
  have N_rns := mkDef (Fw.ok_read_numbers (Ps := [P0]) (P := l.prog) (w := w) (base := base) F54 G hGr N_rn) m54 F54.kp b54
  have N_ta := mkDef (Fw.ok_tops_among (Ps := [P0]) (P := l.prog) (w := w) (base := base) F52 G hTop) m52 F52.kp b52
  have N_by := mkDef (Fw.ok_parted_by (Ps := [P0]) (P := l.prog) (w := w) (base := base) F55 G hBy) m55 F55.kp b55
  have N_rt := mkDef (Fw.ok_read_top (Ps := [P0]) (P := l.prog) (w := w) (base := base) F56 G hTop N_by N_rx N_ps N_rpl) m56 F56.kp b56
  have N_ra := mkDef (Fw.ok_read_answer (Ps := [P0]) (P := l.prog) (w := w) (base := base) F57 G hGr N_by N_rpl N_rn N_ru) m57 F57.kp b57
  have N_rl := mkDef (Fw.ok_read_line (Ps := [P0]) (P := l.prog) (w := w) (base := base) F53 G N_rns N_rt N_ra) m53 F53.kp b53
  have N_rv := mkDef (Fw.ok_read_verdict (Ps := [P0]) (P := l.prog) (w := w) (base := base) F51 G N_ta N_rl) m51 F51.kp b51
  have N_ls := mkDef (Fw.ok__law_stock_text (Ps := [P0]) (P := l.prog) (w := w) (base := base) F58 G) m58 F58.kp b58
  have N_ln := mkDef (Fw.ok__law_number (Ps := [P0]) (P := l.prog) (w := w) (base := base) F61 G N_tk) m61 F61.kp b61
  have N_lp := mkDef (Fw.ok__law_plan (Ps := [P0]) (P := l.prog) (w := w) (base := base) F59 G N_tk L5) m59 F59.kp b59
  have N_lt := mkDef (Fw.ok__law_plan_text (Ps := [P0]) (P := l.prog) (w := w) (base := base) F60 G X5) m60 F60.kp b60
  have N_lv := mkDef (Fw.ok__law_value (Ps := [P0]) (P := l.prog) (w := w) (base := base) F62 G N_tk L5 X5 N_ls N_ln N_lp N_lt) m62 F62.kp b62
  exact law_end (Fw.ok_law (Ps := [P0]) F' G N_dr N_bk N_lp N_lt N_lv N_pp N_rpl N_pv N_rv)
end Mint


namespace Mint
open PySem PySem.Spec PyProof.Rows L2 GxR Gx Gy RZ
theorem none_mk {K : PySem.W.Frag} {h : Heap} {mg : Str → Option Value} {x : Str} (X : K.In h) (G : h.Ns mainGlobals mg) (z : PySem.W.nsIn K mainGlobals x = some none) : mg x = none := PySem.W.mg_none_of X G z
theorem atC_ex {K : PySem.W.Frag} {h : Heap} {mg : Str → Option Value} {x : Str} {st : Stmt} {f cA P : Addr} {oc e : Value} {od an dd : Option Addr} {osl sl : Array (Option Value)} {vs : Array Value} {kV doc pm ct : Value} (X : K.In h) (G : h.Ns mainGlobals mg)
    (T : ∀ fb, mg x = some (.ref fb) → TabOf K fb h) (a : PySem.W.nsIn K mainGlobals x = some (some (.ref f)))
    (l : K.lookup f = some ⟨oc, od, .func (PySem.W.fnOf x x (defArgs st) (defBody st) (defScope st) .none kV doc pm an (.ref cA) ct), osl⟩) (c : PySem.W.codeIn K (.ref cA) x = true) (k : PySem.W.keepIn K (.ref f) = true)
    (l2 : K.lookup cA = some ⟨e, dd, .fields vs, sl⟩) (hP : vs[11]? = some (.ref P)) (nP : K.lookup P = none) : ∃ c P, AtC K mg h x st c P := ⟨cA, P, atC_mk X G T a l c k l2 hP nP⟩
theorem int_mk {K : PySem.W.Frag} {h : Heap} {mg : Str → Option Value} {x : Str} {i : Int} {u : Tok} (X : K.In h) (G : h.Ns mainGlobals mg) (a : PySem.W.nsIn K mainGlobals x = some (some (.int i u))) : ∃ t, mg x = some (.int i t) := ⟨_, PySem.W.mg_of X G a⟩
theorem str_mk {K : PySem.W.Frag} {h : Heap} {mg : Str → Option Value} {x : Str} {i : Str} {u : Tok} (X : K.In h) (G : h.Ns mainGlobals mg) (a : PySem.W.nsIn K mainGlobals x = some (some (.str i u))) : ∃ t, mg x = some (.str i t) := ⟨_, PySem.W.mg_of X G a⟩
end Mint
open PySem PySem.W PyProof.Rows
set_option maxRecDepth 100000 in
set_option maxHeartbeats 0 in
theorem PySem.Challenge.cw_mintlaw_k95_plans_and_verdicts_as_texts_holds : PySem.Challenge.rw_mintlaw_k95_plans_and_verdicts_as_texts.Holds := by
  w_on; o_law; k_head; (case hw => w_witness2)
  k_fill
  refine Mint.walkM (k := 20) (n := 63) (l := PySem.Challenge.rw_mintlaw_k95_plans_and_verdicts_as_texts) ["read_number"] rfl (by decide) rfl ⟨rfl, by decide, by decide⟩ ?hnm (fun w h Y => PySem.W.kIn_of Y) ?hfx
  case hnm =>
    intro x hx
    simp only [List.mem_cons, List.not_mem_nil, or_false] at hx
    rcases hx with rfl <;> decide +kernel
  case hfx =>
    intro w mg fa h KX G hmg own
    have C : Mint.Cst (cw_mintlaw_k95_plans_and_verdicts_as_texts_holds.heap_39 w.params) mg := by
      refine ⟨?_, ?_, ?_⟩
      · refine' Mint.str_mk KX G ?za
        (case za => k_is)
      · refine' Mint.int_mk KX G ?za
        (case za => k_is)
      · refine' Mint.int_mk KX G ?za
        (case za => k_is)
    have hBy : ∃ t, mg "BY" = some (.str Fw.byS t) := by
      refine' Mint.str_mk KX G ?za
      (case za => k_is)
    have hTop : ∃ t, mg "TOP" = some (.str Fw.topS t) := by
      refine' Mint.str_mk KX G ?za
      (case za => k_is)
    have hGr : ∃ t, mg "GREATEST_NUMBER" = some (.int (10 ^ 40) t) := by
      refine' Mint.int_mk KX G ?za
      (case za => k_is)
    have B : Mint.Glb mg := ⟨Mint.none_mk KX G (by k_is), Mint.none_mk KX G (by k_is), Mint.none_mk KX G (by k_is), Mint.none_mk KX G (by k_is), Mint.none_mk KX G (by k_is), Mint.none_mk KX G (by k_is), Mint.none_mk KX G (by k_is), Mint.none_mk KX G (by k_is), Mint.none_mk KX G (by k_is), Mint.none_mk KX G (by k_is), Mint.none_mk KX G (by k_is), Mint.none_mk KX G (by k_is), Mint.none_mk KX G (by k_is), Mint.none_mk KX G (by k_is), Mint.none_mk KX G (by k_is)⟩
    have B1 : Mint.Glb1 (cw_mintlaw_k95_plans_and_verdicts_as_texts_holds.heap_39 w.params) mg := by
      refine ⟨Mint.none_mk KX G (by k_is), Mint.none_mk KX G (by k_is), ?_, ?_, ?_, ?_⟩
      · refine' Mint.int_mk KX G ?za
        (case za => k_is)
      · refine' Mint.str_mk KX G ?za
        (case za => k_is)
      · refine' Mint.int_mk KX G ?za
        (case za => k_is)
      · refine' Mint.int_mk KX G ?za
        (case za => k_is)
    have AL : Mint.At (cw_mintlaw_k95_plans_and_verdicts_as_texts_holds.heap_39 w.params) mg "law" Fw.slaw := by
      (refine' Mint.at_mk KX G ?za ?zl ?zc ?zk; (case za => k_is); (case zl => k_is); (case zc => k_is); (case zk => k_is))
    have A20 : Mint.At (cw_mintlaw_k95_plans_and_verdicts_as_texts_holds.heap_39 w.params) mg "print_number" Mint.sPrintN := by
      (refine' Mint.at_mk KX G ?za ?zl ?zc ?zk; (case za => k_is); (case zl => k_is); (case zc => k_is); (case zk => k_is))
    have A21 : Mint.At (cw_mintlaw_k95_plans_and_verdicts_as_texts_holds.heap_39 w.params) mg "move_index" Mint.sIndex := by
      (refine' Mint.at_mk KX G ?za ?zl ?zc ?zk; (case za => k_is); (case zl => k_is); (case zc => k_is); (case zk => k_is))
    have A22 : Mint.At (cw_mintlaw_k95_plans_and_verdicts_as_texts_holds.heap_39 w.params) mg "print_stock" Mint.sStockP := by
      (refine' Mint.at_mk KX G ?za ?zl ?zc ?zk; (case za => k_is); (case zl => k_is); (case zc => k_is); (case zk => k_is))
    have A23 : Mint.At (cw_mintlaw_k95_plans_and_verdicts_as_texts_holds.heap_39 w.params) mg "print_items" Mint.sItemsP := by
      (refine' Mint.at_mk KX G ?za ?zl ?zc ?zk; (case za => k_is); (case zl => k_is); (case zc => k_is); (case zk => k_is))
    have A24 : Mint.At (cw_mintlaw_k95_plans_and_verdicts_as_texts_holds.heap_39 w.params) mg "print_entry" Mint.sEntryP := by
      (refine' Mint.at_mk KX G ?za ?zl ?zc ?zk; (case za => k_is); (case zl => k_is); (case zc => k_is); (case zk => k_is))
    have A25 : Mint.At (cw_mintlaw_k95_plans_and_verdicts_as_texts_holds.heap_39 w.params) mg "read_range" Mint.sRange := by
      (refine' Mint.at_mk KX G ?za ?zl ?zc ?zk; (case za => k_is); (case zl => k_is); (case zc => k_is); (case zk => k_is))
    have A26 : Mint.At (cw_mintlaw_k95_plans_and_verdicts_as_texts_holds.heap_39 w.params) mg "word_at" Mint.sWord := by
      (refine' Mint.at_mk KX G ?za ?zl ?zc ?zk; (case za => k_is); (case zl => k_is); (case zc => k_is); (case zk => k_is))
    have A27 : Mint.At (cw_mintlaw_k95_plans_and_verdicts_as_texts_holds.heap_39 w.params) mg "_law_mix" Mint.sMix := by
      (refine' Mint.at_mk KX G ?za ?zl ?zc ?zk; (case za => k_is); (case zl => k_is); (case zc => k_is); (case zk => k_is))
    have A28 : Mint.At (cw_mintlaw_k95_plans_and_verdicts_as_texts_holds.heap_39 w.params) mg "_law_numbers" Mint.sNumbers := by
      (refine' Mint.at_mk KX G ?za ?zl ?zc ?zk; (case za => k_is); (case zl => k_is); (case zc => k_is); (case zk => k_is))
    have A29 : Mint.At (cw_mintlaw_k95_plans_and_verdicts_as_texts_holds.heap_39 w.params) mg "_law_draws" Mint.sDraws := by
      (refine' Mint.at_mk KX G ?za ?zl ?zc ?zk; (case za => k_is); (case zl => k_is); (case zc => k_is); (case zk => k_is))
    have A30 : Mint.At (cw_mintlaw_k95_plans_and_verdicts_as_texts_holds.heap_39 w.params) mg "_law_take" Mint.sTake := by
      (refine' Mint.at_mk KX G ?za ?zl ?zc ?zk; (case za => k_is); (case zl => k_is); (case zc => k_is); (case zk => k_is))
    have A31 : Mint.At (cw_mintlaw_k95_plans_and_verdicts_as_texts_holds.heap_39 w.params) mg "print_run" Fw.sprint_run := by
      (refine' Mint.at_mk KX G ?za ?zl ?zc ?zk; (case za => k_is); (case zl => k_is); (case zc => k_is); (case zk => k_is))
    have A32 : Mint.At (cw_mintlaw_k95_plans_and_verdicts_as_texts_holds.heap_39 w.params) mg "print_step" Fw.sprint_step := by
      (refine' Mint.at_mk KX G ?za ?zl ?zc ?zk; (case za => k_is); (case zl => k_is); (case zc => k_is); (case zk => k_is))
    have A33 : Mint.At (cw_mintlaw_k95_plans_and_verdicts_as_texts_holds.heap_39 w.params) mg "read_extended" Fw.sread_extended := by
      (refine' Mint.at_mk KX G ?za ?zl ?zc ?zk; (case za => k_is); (case zl => k_is); (case zc => k_is); (case zk => k_is))
    have A34 : Mint.At (cw_mintlaw_k95_plans_and_verdicts_as_texts_holds.heap_39 w.params) mg "read_entries" Fw.sread_entries := by
      (refine' Mint.at_mk KX G ?za ?zl ?zc ?zk; (case za => k_is); (case zl => k_is); (case zc => k_is); (case zk => k_is))
    have A35 : Mint.At (cw_mintlaw_k95_plans_and_verdicts_as_texts_holds.heap_39 w.params) mg "read_ranges" Fw.sread_ranges := by
      (refine' Mint.at_mk KX G ?za ?zl ?zc ?zk; (case za => k_is); (case zl => k_is); (case zc => k_is); (case zk => k_is))
    have A36 : Mint.At (cw_mintlaw_k95_plans_and_verdicts_as_texts_holds.heap_39 w.params) mg "read_items" Fw.sread_items := by
      (refine' Mint.at_mk KX G ?za ?zl ?zc ?zk; (case za => k_is); (case zl => k_is); (case zc => k_is); (case zk => k_is))
    have A37 : Mint.At (cw_mintlaw_k95_plans_and_verdicts_as_texts_holds.heap_39 w.params) mg "read_run" Fw.sread_run := by
      (refine' Mint.at_mk KX G ?za ?zl ?zc ?zk; (case za => k_is); (case zl => k_is); (case zc => k_is); (case zk => k_is))
    have A38 : Mint.At (cw_mintlaw_k95_plans_and_verdicts_as_texts_holds.heap_39 w.params) mg "read_steps" Fw.sread_steps := by
      (refine' Mint.at_mk KX G ?za ?zl ?zc ?zk; (case za => k_is); (case zl => k_is); (case zc => k_is); (case zk => k_is))
    have A39 : Mint.At (cw_mintlaw_k95_plans_and_verdicts_as_texts_holds.heap_39 w.params) mg "read_step" Fw.sread_step := by
      (refine' Mint.at_mk KX G ?za ?zl ?zc ?zk; (case za => k_is); (case zl => k_is); (case zc => k_is); (case zk => k_is))
    have A40 : Mint.At (cw_mintlaw_k95_plans_and_verdicts_as_texts_holds.heap_39 w.params) mg "_law_named" Fw.s_law_named := by
      (refine' Mint.at_mk KX G ?za ?zl ?zc ?zk; (case za => k_is); (case zl => k_is); (case zc => k_is); (case zk => k_is))
    have A41 : Mint.At (cw_mintlaw_k95_plans_and_verdicts_as_texts_holds.heap_39 w.params) mg "_law_stock" Fw.s_law_stock := by
      (refine' Mint.at_mk KX G ?za ?zl ?zc ?zk; (case za => k_is); (case zl => k_is); (case zc => k_is); (case zk => k_is))
    have A42 : Mint.At (cw_mintlaw_k95_plans_and_verdicts_as_texts_holds.heap_39 w.params) mg "_law_book" Fw.s_law_book := by
      (refine' Mint.at_mk KX G ?za ?zl ?zc ?zk; (case za => k_is); (case zl => k_is); (case zc => k_is); (case zk => k_is))
    have A43 : Mint.At (cw_mintlaw_k95_plans_and_verdicts_as_texts_holds.heap_39 w.params) mg "_law_run" Fw.s_law_run := by
      (refine' Mint.at_mk KX G ?za ?zl ?zc ?zk; (case za => k_is); (case zl => k_is); (case zc => k_is); (case zk => k_is))
    have A44 : Mint.At (cw_mintlaw_k95_plans_and_verdicts_as_texts_holds.heap_39 w.params) mg "_law_run_text" Fw.s_law_run_text := by
      (refine' Mint.at_mk KX G ?za ?zl ?zc ?zk; (case za => k_is); (case zl => k_is); (case zc => k_is); (case zk => k_is))
    have A45 : Mint.At (cw_mintlaw_k95_plans_and_verdicts_as_texts_holds.heap_39 w.params) mg "print_plan" Fw.sprint_plan := by
      (refine' Mint.at_mk KX G ?za ?zl ?zc ?zk; (case za => k_is); (case zl => k_is); (case zc => k_is); (case zk => k_is))
    have A46 : Mint.At (cw_mintlaw_k95_plans_and_verdicts_as_texts_holds.heap_39 w.params) mg "print_verdict" Fw.sprint_verdict := by
      (refine' Mint.at_mk KX G ?za ?zl ?zc ?zk; (case za => k_is); (case zl => k_is); (case zc => k_is); (case zk => k_is))
    have A47 : Mint.At (cw_mintlaw_k95_plans_and_verdicts_as_texts_holds.heap_39 w.params) mg "print_numbers" Fw.sprint_numbers := by
      (refine' Mint.at_mk KX G ?za ?zl ?zc ?zk; (case za => k_is); (case zl => k_is); (case zc => k_is); (case zk => k_is))
    have A48 : Mint.At (cw_mintlaw_k95_plans_and_verdicts_as_texts_holds.heap_39 w.params) mg "print_answer" Fw.sprint_answer := by
      (refine' Mint.at_mk KX G ?za ?zl ?zc ?zk; (case za => k_is); (case zl => k_is); (case zc => k_is); (case zk => k_is))
    have A49 : Mint.At (cw_mintlaw_k95_plans_and_verdicts_as_texts_holds.heap_39 w.params) mg "read_plan" Fw.sread_plan := by
      (refine' Mint.at_mk KX G ?za ?zl ?zc ?zk; (case za => k_is); (case zl => k_is); (case zc => k_is); (case zk => k_is))
    have A50 : Mint.At (cw_mintlaw_k95_plans_and_verdicts_as_texts_holds.heap_39 w.params) mg "read_part" Fw.sread_part := by
      (refine' Mint.at_mk KX G ?za ?zl ?zc ?zk; (case za => k_is); (case zl => k_is); (case zc => k_is); (case zk => k_is))
    have A51 : Mint.At (cw_mintlaw_k95_plans_and_verdicts_as_texts_holds.heap_39 w.params) mg "read_verdict" Fw.sread_verdict := by
      (refine' Mint.at_mk KX G ?za ?zl ?zc ?zk; (case za => k_is); (case zl => k_is); (case zc => k_is); (case zk => k_is))
    have A52 : Mint.At (cw_mintlaw_k95_plans_and_verdicts_as_texts_holds.heap_39 w.params) mg "tops_among" Fw.stops_among := by
      (refine' Mint.at_mk KX G ?za ?zl ?zc ?zk; (case za => k_is); (case zl => k_is); (case zc => k_is); (case zk => k_is))
    have A53 : Mint.At (cw_mintlaw_k95_plans_and_verdicts_as_texts_holds.heap_39 w.params) mg "read_line" Fw.sread_line := by
      (refine' Mint.at_mk KX G ?za ?zl ?zc ?zk; (case za => k_is); (case zl => k_is); (case zc => k_is); (case zk => k_is))
    have A54 : Mint.At (cw_mintlaw_k95_plans_and_verdicts_as_texts_holds.heap_39 w.params) mg "read_numbers" Fw.sread_numbers := by
      (refine' Mint.at_mk KX G ?za ?zl ?zc ?zk; (case za => k_is); (case zl => k_is); (case zc => k_is); (case zk => k_is))
    have A55 : Mint.At (cw_mintlaw_k95_plans_and_verdicts_as_texts_holds.heap_39 w.params) mg "parted_by" Fw.sparted_by := by
      (refine' Mint.at_mk KX G ?za ?zl ?zc ?zk; (case za => k_is); (case zl => k_is); (case zc => k_is); (case zk => k_is))
    have A56 : Mint.At (cw_mintlaw_k95_plans_and_verdicts_as_texts_holds.heap_39 w.params) mg "read_top" Fw.sread_top := by
      (refine' Mint.at_mk KX G ?za ?zl ?zc ?zk; (case za => k_is); (case zl => k_is); (case zc => k_is); (case zk => k_is))
    have A57 : Mint.At (cw_mintlaw_k95_plans_and_verdicts_as_texts_holds.heap_39 w.params) mg "read_answer" Fw.sread_answer := by
      (refine' Mint.at_mk KX G ?za ?zl ?zc ?zk; (case za => k_is); (case zl => k_is); (case zc => k_is); (case zk => k_is))
    have A58 : Mint.At (cw_mintlaw_k95_plans_and_verdicts_as_texts_holds.heap_39 w.params) mg "_law_stock_text" Fw.s_law_stock_text := by
      (refine' Mint.at_mk KX G ?za ?zl ?zc ?zk; (case za => k_is); (case zl => k_is); (case zc => k_is); (case zk => k_is))
    have A59 : Mint.At (cw_mintlaw_k95_plans_and_verdicts_as_texts_holds.heap_39 w.params) mg "_law_plan" Fw.s_law_plan := by
      (refine' Mint.at_mk KX G ?za ?zl ?zc ?zk; (case za => k_is); (case zl => k_is); (case zc => k_is); (case zk => k_is))
    have A60 : Mint.At (cw_mintlaw_k95_plans_and_verdicts_as_texts_holds.heap_39 w.params) mg "_law_plan_text" Fw.s_law_plan_text := by
      (refine' Mint.at_mk KX G ?za ?zl ?zc ?zk; (case za => k_is); (case zl => k_is); (case zc => k_is); (case zk => k_is))
    have A61 : Mint.At (cw_mintlaw_k95_plans_and_verdicts_as_texts_holds.heap_39 w.params) mg "_law_number" Fw.s_law_number := by
      (refine' Mint.at_mk KX G ?za ?zl ?zc ?zk; (case za => k_is); (case zl => k_is); (case zc => k_is); (case zk => k_is))
    have A62 : Mint.At (cw_mintlaw_k95_plans_and_verdicts_as_texts_holds.heap_39 w.params) mg "_law_value" Fw.s_law_value := by
      (refine' Mint.at_mk KX G ?za ?zl ?zc ?zk; (case za => k_is); (case zl => k_is); (case zc => k_is); (case zk => k_is))
    have own0 := own "read_number" (by simp)
    clear own
    obtain ⟨cc0, PP0, T0⟩ : ∃ c P, Mint.AtC (cw_mintlaw_k95_plans_and_verdicts_as_texts_holds.heap_39 w.params) mg h "read_number" Mint.sReadN c P := by
      (refine' Mint.atC_ex KX G own0 ?za ?zl ?zc ?zk ?zm ?zp ?zn; (case za => k_is); (case zl => k_is); (case zc => k_is); (case zk => k_is); (case zm => k_is); (case zp => rfl); (case zn => rfl))
    exact Mint.law_at C B B1 hBy hTop hGr hmg AL A20 A21 A22 A23 A24 A25 A26 A27 A28 A29 A30 A31 A32 A33 A34 A35 A36 A37 A38 A39 A40 A41 A42 A43 A44 A45 A46 A47 A48 A49 A50 A51 A52 A53 A54 A55 A56 A57 A58 A59 A60 A61 A62 T0

