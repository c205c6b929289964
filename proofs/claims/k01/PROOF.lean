import PyProof.Rows.All
import Wide.All
import OpenK.AllK
import Wide.FinOn
import HandS.ForMost
import HandS.AnyAll
import HandS.GenList
import HandS.WordsExc
import HandS.Wide
import HandS.Lambda
import HandS.TupAny
import HandS.Deep
import PyProof.NeKinds
import HandS.Style
import KE.GoesMore
import KE.GoesEnum
import HandS.IsInst
import HandS.RaiseMore
import HandS.Text
import HandS.TupLe
import HandS.Dict
import HandS.EndOwn
import KE.KNest
import KE.LtSeq
import KE.LtData
import KE.DataEq
import HandS.More
import HandS.ForExc
import HandS.ExcIs
import HandS.ExcValue
import HandS.NamedTupSort
import HandS.SortOrd
import KE.KSortTupAny
import PyProof.TupleOfSeq
import PyProof.SumAny
import HandS.Defaults
import HandS.Rev
import HandS.ExcOwn
import HandS.TupMul
import HandS.EndTab
import PyProof.ReprHeads
import PySem.Challenge.RW_alongall_k01_what_weaves_tell
set_option Elab.async false
section
set_option Elab.async false
set_option linter.all false
set_option maxRecDepth 100000
set_option maxHeartbeats 2000000
/-! Generator expressions whose elements are walked by the layer's own rules (own defs called within), consumed by all, any, sum. -/
namespace Gx
open PySem PySem.Spec PyProof.Rows L2

/-- names of a generator expression: own ones, then captured ones with their slots in the def around -/
structure GOk (N : List Str) (sc scope : Scope) (own : List Str) (cp : List (Str × Nat)) : Prop where
  kind : scope.kind = .function
  co : scope.isCoroutine = false
  nocell : ∀ y ∈ scope.names, y.2 ≠ .cell
  dot : scope.names.lookup (".0" : Str) = some NameKind.local
  free : ∀ y ∈ scope.names, y.2 = .free → sc.names.lookup y.1 = some .cell ∨ sc.names.lookup y.1 = some .free
  cap : ∀ p ∈ cp, N[p.2]? = some p.1 ∧ scope.names.lookup p.1 = some .free
abbrev gN (own : List Str) (cp : List (Str × Nat)) : List Str := own ++ cp.map (·.1)
/-- the slots: own ones empty, captured ones as they stand -/
def gS (own : List Str) (cp : List (Str × Nat)) (σ : L2.St) : L2.St := own.map (fun _ => none) ++ cp.map fun p => (σ[p.2]?).getD none
theorem gS_len {own : List Str} {cp : List (Str × Nat)} {σ : L2.St} : (gS own cp σ).length = (gN own cp).length := by simp [gS, gN]

abbrev gX (X : Cx) (Ag : Around) (own : List Str) (cp : List (Str × Nat)) (s : Shared) (H : Hp) (ge : Env) (fp : List Addr) (pn : List (Addr × Obj)) : Cx :=
  { X with A := Ag, N := gN own cp, s_0 := s, H_0 := H, env := ge, outer := X.stack, stack := ge :: X.stack, ex := fp, fn := fun _ => false, calm := true, pn := pn, xe := fun _ _ => False }

section
variable {X : Cx} {pins : List (Addr × Obj)} {σ : L2.St} {H : Hp} {s : Shared}

/-- the generator's frame has been made -/
theorem gx_start {scope : Scope} {own : List Str} {cp : List (Str × Nat)} {fp : List Addr} {Ag : Around} {code : Value} {h5 : Heap} {g5 : Array GenState} {t5 : Nat} {m : Str → Option Value} {pn : List (Addr × Obj)}
    (I : Inv X pins σ H s) (ok : GOk X.N X.env.scope scope own cp) (hA : Ag.handled = none)
    (hfr : Ag.frames = some (genEnv scope (cloFrom X.env.cells scope.names []) s.heap.objs.size code builtinsNs X.env :: X.stack))
    (hfp : ∀ b ∈ fp, FpOk X pins H b ∧ b < s.heap.objs.size) (kp : ∀ b o, s.heap.get? b = some o → h5.get? b = some o) (hn : h5.Ns s.heap.objs.size m) (hg : AllBare g5)
    (hpn : ∀ p ∈ pn, h5.get? p.1 = some p.2 ∧ H p.1 = none ∧ p.1 ≠ s.heap.objs.size ∧ p.1 ∉ frs X.stack ∧ ∀ v, p.2.data ≠ .cell v) :
    Inv (gX X Ag own cp s H (genEnv scope (cloFrom X.env.cells scope.names []) s.heap.objs.size code builtinsNs X.env) fp pn) [] (gS own cp σ) H { s with heap := h5, gens := g5, toks := t5 } := by
  have hfree : ∀ y ∈ scope.names, y.2 = .free → ∃ c, X.env.cells.lookup y.1 = some c := fun y hy e => by
    rcases ok.free y hy e with k | k
    · exact I.ok.has _ (.inl k)
    · exact I.ok.has _ (.inr k)
  have cm : ∀ {y c}, (y, c) ∈ cloFrom X.env.cells scope.names [] → X.env.cells.lookup y = some c ∧ c < s.heap.objs.size := fun {y c} hm => by
    rcases cloFrom_mem hm with hm | ⟨h1, rfl⟩
    · cases hm
    · obtain ⟨c, hc⟩ := hfree _ h1 rfl
      rw [hc]
      obtain ⟨w, z⟩ := I.cell _ _ hc
      exact ⟨rfl, z.lt⟩
  have lk : ∀ {y c}, (cloFrom X.env.cells scope.names []).lookup y = some c → X.env.cells.lookup y = some c ∧ c < s.heap.objs.size := fun {y c} e => cm (PySem.mem_of_lookup e)
  have look : ∀ {y}, scope.names.lookup y = some .free → ∃ c, (cloFrom X.env.cells scope.names []).lookup y = some c ∧ X.env.cells.lookup y = some c := fun {y} hl => by
    have hy : (y, NameKind.free) ∈ scope.names := PySem.mem_of_lookup hl
    obtain ⟨c', e'⟩ := mem_lookup (cloFrom_has (cells := X.env.cells) (acc := []) hy)
    exact ⟨c', e', (lk e').1⟩
  have okB : (gX X Ag own cp s H (genEnv scope (cloFrom X.env.cells scope.names []) s.heap.objs.size code builtinsNs X.env) fp pn).Ok := by
    refine ⟨I.ok.mod, ok.kind, I.ok.glob, rfl, Nat.le_refl _, fun y z c e1 e2 => ?_, fun y hy => ?_, fun y c z e => ?_, fun _ => hA, hfr, .inr ⟨rfl, rfl⟩, fun b hb => ⟨?_, fun y c e z => ?_⟩, I.bs, Nat.le_trans I.ok.bsz I.sz, fun b o e hb => ?_, fun b hb z => ?_, I.stack, I.stkFree⟩
    · exact I.ok.inj y z c (lk e1).1 (lk e2).1
    · have hy : scope.names.lookup y = some .cell ∨ scope.names.lookup y = some .free := hy
      rcases hy with hy | hy
      · exact absurd rfl (ok.nocell _ (PySem.mem_of_lookup hy))
      · obtain ⟨c, e, _⟩ := look hy
        exact ⟨c, e⟩
    · cases z
    · exact Nat.ne_of_lt (hfp b hb).2
    · exact (hfp b hb).1.2.2.2.2.1 y c (lk e).1 z
    · rcases (hfp b hb).1.2.2.2.1 with z | z
      · exact I.ok.noex b o e z
      · exact absurd (Nat.lt_of_lt_of_le (Heap.lt_size e) (Nat.le_trans I.ok.bsz z)) (Nat.lt_irrefl _)
    · rcases List.mem_cons.mp (I.stkSub b z) with z | z
      · exact (hfp b hb).1.2.1 z
      · exact (hfp b hb).1.2.2.1 z
  refine ⟨okB, rfl, hg, Un.kept kp, ⟨m, hn, fun i y av e1 e2 e3 => ?_⟩, fun y c e => ?_, I.hok.fresh (Nat.le_refl _), fun y c e => ?_, fun p hp => hpn p (by simpa using hp), I.hok.kept kp, gS_len⟩
  · have hi : own.length ≤ i := by
      rcases Nat.lt_or_ge i own.length with h | h
      · exfalso
        unfold gS at e2
        rw [List.getElem?_append_left (by simpa using h), List.getElem?_map] at e2
        cases q : own[i]? with
        | none => rw [q] at e2; cases e2
        | some z => rw [q] at e2; cases e2
      · exact h
    have e1 : (gN own cp)[i]? = some y := e1
    rw [gN, List.getElem?_append_right hi, List.getElem?_map] at e1
    unfold gS at e2
    rw [List.getElem?_append_right (by simpa using hi), List.getElem?_map, List.length_map] at e2
    cases q : cp[i - own.length]? with
    | none => rw [q] at e1; cases e1
    | some p =>
      rw [q] at e1 e2
      have ey : p.1 = y := Option.some.inj e1
      have ev : (σ[p.2]?).getD none = some av := Option.some.inj e2
      obtain ⟨hp1, hp2⟩ := ok.cap p (List.mem_of_getElem? q)
      rw [ey] at hp1 hp2
      have es : σ[p.2]? = some (some av) := by
        cases r : σ[p.2]? with
        | none => rw [r] at ev; cases ev
        | some z => rw [r] at ev; exact congrArg some ev
      obtain ⟨m0, hn0, hl⟩ := I.loc
      have hvis : Vis X.env.scope y := (ok.free _ (PySem.mem_of_lookup hp2) rfl).elim (fun k => .inr (.inl k)) (fun k => .inr (.inr k))
      obtain ⟨w, r, z⟩ := hl p.2 y av hp1 es hvis
      refine ⟨w, r, .inr ⟨.inr hp2, ?_⟩⟩
      obtain ⟨c, h1, h2⟩ := look hp2
      rcases z with ⟨k, _⟩ | ⟨_, c', e', z⟩
      · have k : X.env.scope.names.lookup y = some .local := k
        rcases ok.free _ (PySem.mem_of_lookup hp2) rfl with k' | k' <;> rw [show X.env.scope.names.lookup y = _ from k'] at k <;> cases k
      · rw [h2] at e'; cases e'
        exact ⟨c, h1, z.keeps kp⟩
  · obtain ⟨w, z⟩ := I.cell y c (lk e).1
    exact ⟨w, z.keeps kp⟩
  · exact I.freeC y c (lk e).1
end
end Gx
end
section
set_option Elab.async false
set_option linter.all false
set_option maxRecDepth 100000
set_option maxHeartbeats 2000000
namespace Gx
open PySem PySem.Spec PyProof.Rows L2 GenW

/-- the same heap, another table of generators -/
theorem inv_same {X : Cx} {pins : List (Addr × Obj)} {σ : L2.St} {H : Hp} {s s' : Shared} (I : Inv X pins σ H s) (hh : s'.heap = s.heap) (ho : s'.os = s.os) (hb : AllBare s'.gens) : Inv X pins σ H s' :=
  ⟨I.ok, ho.trans I.os, hb, by rw [hh]; exact I.base, by rw [hh]; exact I.loc, by rw [hh]; exact I.cell, I.free, I.freeC, by rw [hh]; exact I.pin, by rw [hh]; exact I.hok, I.len⟩

/-- what the consumer asks of the item y, the j-th one: Nx is what lets the generator go on -/
abbrev Cons := Nat → V → Hp → (Hp → Prop) → Prop
/-- an item is handed out -/
def gY (Y : Cx) (σ0 : L2.St) (cons : Cons) (N0 : Nat) : Protocol := fun n s₀ v s kap =>
  ∃ j y H Nx, n + 1 + j = N0 ∧ RelV y v ∧ Inv Y [] σ0 H s ∧ cons j y H Nx ∧ ∀ s'' : Shared, s''.heap = s.heap → s''.os = s.os → AllBare s''.gens → Nx H → 1 ≤ n ∧ kap (.send .none) s''
/-- the walk has come to its end -/
def gE (Y : Cx) (σ0 : L2.St) (Qe : Nat → Hp → Prop) (N0 : Nat) : Nat → Shared → Shared → Prop := fun n s₀ s => ∃ j H, n + j = N0 ∧ Inv Y [] σ0 H s ∧ Qe j H

section
variable {Y : Cx} {σ0 : L2.St} {cons : Cons} {Qe : Nat → Hp → Prop} {N0 : Nat} {A : Around} {elt tg iter : Expr} {ifs : List Expr} {scope : Scope} {pos : Pos} {it : Addr} {fp : List Addr} {tn : Nat → Heap → Prop} {J : It} {g : TG} {tt : TT} {te : TE} {vs : List Nat}
  {W : Nat → Nat → Nat → Hp → Prop}
abbrev gcode (elt tg iter : Expr) (ifs : List Expr) (scope : Scope) (pos : Pos) (it : Addr) (e : Env) : Code := .compLoop (.GeneratorExp elt [⟨tg, iter, ifs, 0⟩] scope pos) 0 (.ref it) .none e

theorem gx_loop (hA : A.over (gcode elt tg iter ifs scope pos it Y.env) [] = Y.A) (hco : Y.env.scope.isCoroutine = false) (hc : Y.calm = true) (T : Turn Y.prog Y.w Y.K tg J fp it tn) (hxe : Y.xe = fun _ _ => False)
    (stat : ∀ {σ' : L2.St} {H' : Hp} {s' : Shared}, Inv Y [] σ' H' s' → (∀ b ∈ fp, H' b = none) → ∀ b ∈ fp, FpOk Y [] H' b)
    (pg : PG Y tg g) (pt : PTs Y ifs tt) (pe : PE Y elt te)
    (turn : ∀ i m j H, W i m j H → (J.stop i H ∧ Qe j H) ∨ (J.go i H ∧ ∃ Nx : Nat → Hp → Prop, (∀ j' H', Nx j' H' → ∃ m', m' < m ∧ W (i + 1) m' j' H') ∧ ∀ x H', J.yld i H x H' → g x σ0 H' fun σ2 H2 => wipe σ2 vs = σ0 ∧ tt σ2 H2 fun b H3 =>
      if b = true then te σ2 H3 fun y H4 => cons j y H4 (Nx (j + 1)) else Nx j H3)) :
    ∀ (m i j n : Nat) (s₀ s : Shared) (H : Hp), n + j = N0 → m + 1 ≤ n → W i m j H → Inv Y [] σ0 H s → tn i s.heap → (∀ b ∈ fp, H b = none) →
      Seg (model Y.prog Y.w) A (fun n s₀ r s₁ => r = .ok .next ∧ gE Y σ0 Qe N0 n s₀ s₁) (gY Y σ0 cons N0) n s₀ (gcode elt tg iter ifs scope pos it Y.env)
        ((model Y.prog Y.w).den (gcode elt tg iter ifs scope pos it Y.env)) [] s := by
  have nox : ∀ {α : Type} {t : Sem α} {Q Q' : α → Shared → Prop} {E : Value → Shared → Prop} {s : Shared}, wpAny (model Y.prog Y.w) Y.A t Q Y.xe s → (∀ a s, Q a s → Q' a s) → wpAny (model Y.prog Y.w) Y.A t Q' E s := fun h hq => by
    rw [hxe] at h
    exact wpAny_mono h hq fun _ _ z => False.elim z
  intro m
  induction m using Nat.strongRecOn with
  | ind m ih =>
    intro i j n s₀ s H hn hm w I st n0
    show Seg _ A _ _ _ s₀ _ ((compTurn (.GeneratorExp elt [⟨tg, iter, ifs, 0⟩] scope pos) 0 (.ref it) .none Y.env).onRaise (leaving Y.env)) [] s
    rw [compTurn_gen, Sem.onRaise_eq_wrap]
    refine seg_bind_wrap (wpAny_standAt ?_)
    rcases turn i m j H w with ⟨stop, q⟩ | ⟨go, Nx, hNx, step⟩
    · refine seg_bind_wrap ?_
      rw [hA]
      refine thnF (T.done Y rfl rfl rfl hc i [] s σ0 H (fun _ _ => False) I (stat I n0) st stop) fun r s1 ⟨hr, I1⟩ => ?_
      subst hr
      exact seg_end (.ok .next) ⟨rfl, j, H, hn, I1, q⟩
    · refine seg_bind_wrap ?_
      rw [hA]
      refine thnF (T.item Y rfl rfl rfl hc i [] s σ0 H (fun _ _ => False) I (stat I n0) st go) fun r s1 ⟨u, hr, h1⟩ => ?_
      subst hr
      refine seg_bind_wrap ?_
      rw [hA]
      refine thnF h1 fun _ s2 ⟨x, H2, I2, r2, y2, st2, n2⟩ => ?_
      have I2' := I2.pinned (stat I2 n2) (T.obj _ _ st2)
      refine seg_bind_wrap ?_
      rw [hA]
      refine nox (pg.run _ s2 σ0 H2 x u _ I2' r2 (step x H2 y2)) fun _ s3 ⟨σ3, H3, I3, hw3, q3⟩ => ?_
      refine seg_bind_wrap ?_
      rw [hA]
      refine nox (pt.run _ s3 σ3 H3 _ I3 q3) fun b s4 ⟨H4, I4, q4⟩ => ?_
      -- a state within the turn, as one between turns
      have back : ∀ {s' : Shared} {H' : Hp}, Inv Y ([] ++ pinsAt fp s2.heap) σ3 H' s' → Inv Y [] σ0 H' s' ∧ tn (i + 1) s'.heap ∧ ∀ b ∈ fp, H' b = none := fun {s' H'} I' => by
        have pin' : ∀ b ∈ fp, ∀ o, s2.heap.get? b = some o → s'.heap.get? b = some o ∧ H' b = none := fun b hb o e =>
          let z := I'.pin (b, o) (List.mem_append_right _ (List.mem_append_right _ (mem_pinsAt hb e)))
          ⟨z.1, z.2.1⟩
        have hl : σ0.length = σ3.length := by rw [← hw3, wipe_length]
        refine ⟨(I'.unpinned (pins := [])).weak hl fun j v e => ?_, T.keep _ _ _ st2 fun b hb o e => (pin' b hb o e).1, fun b hb => ?_⟩
        · rw [← hw3] at e
          exact (wipe_some e).1
        · obtain ⟨o, e, _⟩ := T.obj _ _ st2 b hb
          exact (pin' b hb o e).2
      cases b with
      | false =>
        simp only [Bool.false_eq_true, if_false] at q4 ⊢
        obtain ⟨m', hm', w'⟩ := hNx j H4 q4
        obtain ⟨I5, st5, n5⟩ := back I4
        exact seg_again rfl (ih m' hm' (i + 1) j n s₀ s4 H4 hn (by omega) w' I5 st5 n5)
      | true =>
        simp only [if_true] at q4 ⊢
        have hy : ∀ v, yieldOut Y.env v = yieldValue v := fun v => by simp only [yieldOut, hco, Bool.false_eq_true, if_false]
        simp only [hy]
        rw [Sem.bind_eq_wrap', Sem.bind_eq_wrap', Sem.wrap_wrap, Sem.wrap_wrap]
        refine seg_wrap ?_
        rw [hA]
        refine nox (pe.run _ s4 σ3 H4 _ I4 q4) fun v s5 ⟨y, H5, I5, r5, q5⟩ => ?_
        obtain ⟨I6, st6, n6⟩ := back I5
        cases n with
        | zero => omega
        | succ n =>
          refine seg_at (seg_yield rfl rfl rfl ⟨j, y, H5, Nx (j + 1), by omega, r5, I6, q5, fun s'' e1 e2 e3 hx => ?_⟩)
          obtain ⟨m', hm', w'⟩ := hNx (j + 1) H5 hx
          exact ⟨by omega, seg_again rfl (ih m' hm' (i + 1) (j + 1) n s'' s'' H5 (by omega) (by omega) w' (inv_same I6 e1 e2 e3) (by rw [e1]; exact st6) n6)⟩

/-! ### all, any, sum over a generator -/
variable {prog : Program} {w : World} {B : Around} {a : Addr} {gi : Nat} {go : Obj}
/-- the generator at a may be asked again: its entry, its object, what stands within -/
def GReady (prog : Program) (w : World) (B : Around) (Y : Cx) (σ0 : L2.St) (cons : Cons) (Qe : Nat → Hp → Prop) (N0 : Nat) (a : Addr) (gi n : Nat) (s : Shared) : Prop :=
  1 ≤ n ∧ s.heap.IsGen a gi ∧ s.heap.NoLimit ∧ AllBare s.gens ∧ ∃ gs, s.gens[gi]? = some gs ∧
    gs.Goes (model prog w) B.in1 (fun n s₀ r s₁ => r = .ok .next ∧ gE Y σ0 Qe N0 n s₀ s₁) (gY Y σ0 cons N0) n (.send .none) (s.setGen gi .running)

/-- one item more, or the end -/
theorem gx_next {n : Nat} {s : Shared} {Q : Option Value → Shared → Prop} {E : Value → Shared → Prop} (hh : B.handled = none) (hroom : B.depth < recursionLimit)
    (hgen : ∀ {H : Hp} {s' : Shared}, Inv Y [] σ0 H s' → s'.heap.IsGen a gi ∧ s'.heap.NoLimit)
    (hr : GReady prog w B Y σ0 cons Qe N0 a gi n s)
    (hi : ∀ j v y H Nx s', n + j = N0 → RelV y v → Inv Y [] σ0 H s' → cons j y H Nx → (Nx H → ∃ n', n = n' + 1 ∧ GReady prog w B Y σ0 cons Qe N0 a gi n' s') → Q (some v) s')
    (he : ∀ j H s', n + j = N0 → Inv Y [] σ0 H s' → Qe j H → Q none s') :
    wpAny (model prog w) B (pyNext (.ref a)) Q E s := by
  obtain ⟨hn1, h1, h2, h3, gs, h4, h5⟩ := hr
  have hlt : gi < s.gens.size := by
    rcases Nat.lt_or_ge gi s.gens.size with z | z
    · exact z
    · rw [Array.getElem?_eq_none z] at h4; cases h4
  refine wpAny_gsz (n := s.gens.size) (Nat.le_refl _) ?_
  refine wpAny_pyNext_genexpQ hh h2 hroom h1 h4 h5 (fun v s1 gs' hb hv hsz => ?_) (fun s1 hp h' hk hsz => ?_)
  · obtain ⟨j, y, H, Nx, hn, rv, I, hc, hgo⟩ := hv
    rw [setGen_size] at hsz
    have hb' : AllBare (s1.setGen gi gs').gens := allBare_setGen I.bare hb
    have I' : Inv Y [] σ0 H (s1.setGen gi gs') := inv_same I rfl rfl hb'
    refine hi j v y H Nx _ (by omega) rv I' hc fun nx => ?_
    obtain ⟨q1, q⟩ := hgo ((s1.setGen gi gs').setGen gi .running) rfl rfl (allBare_setGen hb' rfl) nx
    cases n with
    | zero => exact q.elim
    | succ n =>
      obtain ⟨z1, z2⟩ := hgen I'
      exact ⟨n, rfl, q1, z1, z2, hb', gs', setGen_at (Nat.lt_of_lt_of_le hlt hsz), q⟩
  · obtain ⟨j, H, hn, I, q⟩ := hp
    have hb' : AllBare (s1.setGen gi .finished).gens := allBare_setGen I.bare rfl
    have I' : Inv Y [] σ0 H (s1.setGen gi .finished) := inv_same I rfl rfl hb'
    refine he j H _ hn ?_ q
    exact I'.kept (t' := s1.toks) hk

theorem all_gx {Qf : Hp → Prop} {R : Result → Shared → Prop} (hh : B.handled = none) (hroom : B.depth < recursionLimit)
    (hgen : ∀ {H : Hp} {s' : Shared}, Inv Y [] σ0 H s' → s'.heap.IsGen a gi ∧ s'.heap.NoLimit)
    (hT : ∀ j H s', Inv Y [] σ0 H s' → Qe j H → R (.ok (.ret (.bool true))) s') (hF : ∀ H s', Inv Y [] σ0 H s' → Qf H → R (.ok (.ret (.bool false))) s') :
    ∀ (n : Nat) (s : Shared), GReady prog w B.in1 Y σ0 (fun _ y H Nx => ∃ k, y = .bl k ∧ if k = true then Nx H else Qf H) Qe N0 a gi n s →
      codeAny (model prog w) B (.builtin "all.loop" ⟨[.ref a], []⟩) R s := by
  intro n
  induction n with
  | zero => intro s h; exact absurd h.1 (by omega)
  | succ n ih =>
    intro s hr
    refine codeAny_builtin F.entry_all_loop ?_
    rw [Around.under_plainId F.plain_all_loop _]
    refine wpAny_bind (gx_next (B := B.in1) hh hroom hgen hr (fun j v y H Nx s' hn rv I hc hgo => ?_) (fun j H s' hn I q => ?_))
    · obtain ⟨k, rfl, hk⟩ := hc
      obtain rfl : v = .bool k := rv
      refine wpAny_bind (wpAny_holding (wpAny_truthy_bool ?_))
      refine wpAny_bind (wpAny_letGo ?_)
      cases k with
      | true =>
        simp only [if_true] at hk ⊢
        obtain ⟨n', e, hr'⟩ := hgo hk
        obtain rfl : n' = n := by omega
        exact wpAny_pure ⟨plainId_quiet F.plain_all_loop _, ih _ hr'⟩
      | false =>
        simp only [Bool.false_eq_true, if_false] at hk ⊢
        exact wpAny_bind (wpAny_rule (wpAny_pure (hF H s' I hk)))
    · refine wpAny_bind (wpAny_rule (wpAny_pure ?_))
      exact hT j H s' I q

theorem any_gx {Qf : Hp → Prop} {R : Result → Shared → Prop} (hh : B.handled = none) (hroom : B.depth < recursionLimit)
    (hgen : ∀ {H : Hp} {s' : Shared}, Inv Y [] σ0 H s' → s'.heap.IsGen a gi ∧ s'.heap.NoLimit)
    (hT : ∀ j H s', Inv Y [] σ0 H s' → Qe j H → R (.ok (.ret (.bool false))) s') (hF : ∀ H s', Inv Y [] σ0 H s' → Qf H → R (.ok (.ret (.bool true))) s') :
    ∀ (n : Nat) (s : Shared), GReady prog w B.in1 Y σ0 (fun _ y H Nx => ∃ k, y = .bl k ∧ if k = true then Qf H else Nx H) Qe N0 a gi n s →
      codeAny (model prog w) B (.builtin "any.loop" ⟨[.ref a], []⟩) R s := by
  intro n
  induction n with
  | zero => intro s h; exact absurd h.1 (by omega)
  | succ n ih =>
    intro s hr
    refine codeAny_builtin F.entry_any_loop ?_
    rw [Around.under_plainId F.plain_any_loop _]
    refine wpAny_bind (gx_next (B := B.in1) hh hroom hgen hr (fun j v y H Nx s' hn rv I hc hgo => ?_) (fun j H s' hn I q => ?_))
    · obtain ⟨k, rfl, hk⟩ := hc
      obtain rfl : v = .bool k := rv
      refine wpAny_bind (wpAny_holding (wpAny_truthy_bool ?_))
      refine wpAny_bind (wpAny_letGo ?_)
      cases k with
      | false =>
        simp only [Bool.false_eq_true, if_false] at hk ⊢
        obtain ⟨n', e, hr'⟩ := hgo hk
        obtain rfl : n' = n := by omega
        exact wpAny_pure ⟨plainId_quiet F.plain_any_loop _, ih _ hr'⟩
      | true =>
        simp only [if_true] at hk ⊢
        exact wpAny_bind (wpAny_rule (wpAny_pure (hF H s' I hk)))
    · refine wpAny_bind (wpAny_rule (wpAny_pure ?_))
      exact hT j H s' I q
end
end Gx
end
section
set_option Elab.async false
set_option linter.all false
set_option maxRecDepth 100000
set_option maxHeartbeats 2000000
namespace Gx
open PySem PySem.Spec PyProof.Rows L2 GenW

theorem over_gen {A : Around} {elt tg iter : Expr} {ifs : List Expr} {scope : Scope} {pos : Pos} {it : Addr} {e : Env} : A.over (gcode elt tg iter ifs scope pos it e) [] = A.deeper e := by
  first
    | rfl
    | (obtain ⟨hd, d, fr, gs, u⟩ := A; simp [Around.over, Around.deeper, marksOver, frameCount, unitsOf, envsOf, guardsOf, pushEnvs, pushGuards, Code.envs, Code.env?, Code.isFrame, Code.guards, Code.isGuard, Code.weight, Code.frames, Code.isCreation, Code.isCaller, Code.cUnits])

/-- the first step: the code of the generator's beginning goes over to its loop -/
theorem seg_begin {M : Model} {A : Around} {R : GenEnd} {Yp : Protocol} {n : Nat} {s₀ s : Shared} {elt tg iter : Expr} {ifs : List Expr} {scope : Scope} {pos : Pos} {it : Addr} {e : Env} {prog : Program} {w : World} (hM : M = model prog w)
    (hself : ∀ (A : Around) (Q : Value → Shared → Prop) (E : Value → Shared → Prop), Q (.ref it) s → wpAny M A (pyIter (.ref it)) Q E s)
    (loop : Seg M A R Yp n s₀ (gcode elt tg iter ifs scope pos it e) (M.den (gcode elt tg iter ifs scope pos it e)) [] s) :
    Seg M A R Yp n s₀ (.compStart (.GeneratorExp elt [⟨tg, iter, ifs, 0⟩] scope pos) 0 (.ref it) .none e) (M.den (.compStart (.GeneratorExp elt [⟨tg, iter, ifs, 0⟩] scope pos) 0 (.ref it) .none e)) [] s := by
  subst hM
  show Seg _ A _ _ _ s₀ _ ((compStart (.GeneratorExp elt [⟨tg, iter, ifs, 0⟩] scope pos) 0 (.ref it) .none e).onRaise (leaving e)) [] s
  unfold compStart
  rw [Sem.onRaise_eq_wrap]
  show Seg _ A _ _ _ s₀ _ ((ask >>= _).wrap _ _ _ _) [] s
  refine seg_bind_wrap (wpAny_askSetting ?_)
  split
  · exact seg_again rfl loop
  · first
      | exact seg_bind_wrap (wpAny_rule (seg_bind_wrap (wpAny_standAt (seg_bind_wrap (hself _ _ _ (seg_again rfl loop))))))
      | (refine seg_bind_wrap (wpAny_rule ?_); show Seg _ A _ _ _ s₀ _ ((standAt iter.pos >>= _).wrap _ _ _ _) [] s; exact seg_bind_wrap (wpAny_standAt (seg_bind_wrap (hself _ _ _ (seg_again rfl loop)))))

/-- what a generator expression asks: its iterator, then turn by turn -/
def tGen (P : Addr) (own : List Str) (cp : List (Str × Nat)) (wi : TI) (g : TG) (tt : TT) (te : TE) (cons : Cons) (Qe : Nat → Hp → Prop) : L2.St → Hp → Prop := fun σ H => wi σ H fun J H1 => GxR.TabG H1 P ∧ ∀ H2, GxR.Tabbed P H1 H2 →
  ∃ W : Nat → Nat → Nat → Hp → Prop, (∃ m, W 0 m 0 H2) ∧ ∀ i m j H, W i m j H → (J.stop i H ∧ Qe j H) ∨ (J.go i H ∧ ∃ Nx : Nat → Hp → Prop, (∀ j' H', Nx j' H' → ∃ m', m' < m ∧ W (i + 1) m' j' H') ∧
    ∀ x H', J.yld i H x H' → g x (gS own cp σ) H' fun σ2 H2 => wipe σ2 (List.range own.length) = gS own cp σ ∧ tt σ2 H2 fun b H3 => if b = true then te σ2 H3 fun y H4 => cons j y H4 (Nx (j + 1)) else Nx j H3)

/-- a made generator, for its consumer -/
def GMd (X : Cx) (pins : List (Addr × Obj)) (σ : L2.St) (cons : Cons) (Qe : Nat → Hp → Prop) (v : Value) (s : Shared) : Prop :=
  ∃ (a : Addr) (gi N0 : Nat) (Y : Cx) (σ0 : L2.St), v = .ref a ∧ (∀ {H : Hp} {s' : Shared}, Inv Y [] σ0 H s' → s'.heap.IsGen a gi ∧ s'.heap.NoLimit) ∧
    (∀ {H : Hp} {s' : Shared}, Inv Y [] σ0 H s' → Inv X pins σ H s') ∧ GReady X.prog X.w X.A.in1 Y σ0 cons Qe N0 a gi N0 s

section
variable {X : Cx} {pins : List (Addr × Obj)} {σ : L2.St} {H : Hp} {s : Shared}
theorem gx_gen {c P : Addr} {elt tg iter : Expr} {ifs : List Expr} {gpos : Pos} {scope : Scope} {own : List Str} {cp : List (Str × Nat)} {wi : TI} {g : TG} {tt : TT} {te : TE} {k : Nat} {cons : Cons} {Qe : Nat → Hp → Prop} {Q' : Value → Shared → Prop}
    (hr : Room (k + 4) X.A) (hcalm : X.calm = true) (TB : GxR.TabB X.base X.mg c P) (hcode : X.env.code = .ref c) (ok : GOk X.N X.env.scope scope own cp) (hi : PI X tg iter wi)
    (hpg : ∀ Ag s H C cl code fp pn, Room k Ag → PG (gX X Ag own cp s H (genEnv scope cl C code builtinsNs X.env) fp pn) tg g)
    (hpt : ∀ Ag s H C cl code fp pn, Room k Ag → PTs (gX X Ag own cp s H (genEnv scope cl C code builtinsNs X.env) fp pn) ifs tt)
    (hpe : ∀ Ag s H C cl code fp pn, Room k Ag → PE (gX X Ag own cp s H (genEnv scope cl C code builtinsNs X.env) fp pn) elt te)
    (hs : ∀ v, genFold iter X.env v = pure v) (I : Inv X pins σ H s) (h : tGen P own cp wi g tt te cons Qe σ H)
    (hQ : ∀ v s5, GMd X pins σ cons Qe v s5 → Q' v s5) :
    wpAny (model X.prog X.w) X.A (eval (.GeneratorExp elt [⟨tg, iter, ifs, 0⟩] scope gpos) X.env) Q' X.xe s := by
  have hfree : ∀ y ∈ scope.names, y.2 = .free → ∃ c, X.env.cells.lookup y.1 = some c := fun y hy e => by
    rcases ok.free y hy e with k | k
    · exact I.ok.has _ (.inl k)
    · exact I.ok.has _ (.inr k)
  refine wpAny_GeneratorExp_make ok.co (closure_ok hfree) ok.nocell ok.dot ok.kind (by have := hr.dp; omega) ?_ hs
  refine thn (hi.run pins s σ H _ I h) fun xv s1 h1 => thn h1 fun itv s2 h2 => ?_
  obtain ⟨it, fp, tn, J, H2, rfl, I2, T, st2, f2, ⟨ps, hP, ht⟩, hW⟩ := h2
  have hPs : s2.heap.get? P = some { cls := .none, data := .fields ps } := I2.hok P _ hP
  have hPlt : P < s2.heap.objs.size := Heap.lt_size hPs
  have cd : PySem.W.CodeHd s2.heap c P := TB.code.keeps fun b u e => I2.bk b u e
  have nPfp : ∀ b ∈ fp, b ≠ P := fun b hb z => by
    have := (f2 b hb).1
    rw [z, hP] at this
    cases this
  refine ⟨I2.nolimit, ?_⟩
  -- the code is there, the table may have grown
  have cont : ∀ (code : Value) (h3 : Heap) (tk : Nat) (ps' : Array Value), Heap.ExtBut P s2.heap h3 → s2.heap.objs.size ≤ h3.objs.size → h3.get? P = some { cls := .none, data := .fields ps' } → (∃ more, ps' = ps ++ more) → TriplesOk ps'.toList →
      wpAny (model X.prog X.w) X.A (builtinsFor X.env.globals X.env.builtins) (fun bi s₄ =>
        ∀ h', h'.Ns s₄.heap.objs.size (fun y => if y = ".0" then some (.ref it) else none) → Heap.SameBut s₄.heap.objs.size (s₄.heap.push { cls := .type "frame", data := .dict #[] }) h' →
          Q' (.ref h'.objs.size) { s₄ with
            gens := s₄.gens.push (.fresh (.compStart (.GeneratorExp elt [⟨tg, iter, ifs, 0⟩] scope gpos) 0 (.ref it) .none (genEnv scope (cloFrom X.env.cells scope.names []) s₄.heap.objs.size code bi X.env))),
            toks := s₄.toks + 1 + 1 + 1,
            heap := h'.push { cls := .type "generator", data := .fields #[.int s₄.gens.size 0, .str "<genexpr>" (s₄.toks + 1), .str (X.env.qual ++ "<genexpr>") (s₄.toks + 1 + 1)] } }) X.xe { s2 with heap := h3, toks := tk } := by
    intro code h3 tk ps' hx hsz hP3 hmore ht3
    obtain ⟨more, em⟩ := hmore
    obtain ⟨bm, ob, e1, e2, e3, e4, e5, e6, e7, e8⟩ := TB.bm
    have keep3 : ∀ b u, b ≠ P → s2.heap.get? b = some u → h3.get? b = some u := fun b u hb e => hx b u hb e
    refine wpAny_builtinsFor (m := X.mg) (by rw [I2.ok.glob]; exact (I2.mod.glob.keeps I2.bk).extBut hx TB.gP) e1 e2 (keep3 _ _ e4 (I2.bk _ _ e5)) e6 e7 e8 ?_
    have I3 : Inv X pins σ (upd H2 P (.tbl (ps ++ more))) { s2 with heap := h3, toks := tk } := by
      have z := GxR.inv_tab (more := more) (h' := h3) (g' := s2.gens) (d' := s2.drawn) (t' := tk) I2 hP keep3 (by rw [← em]; exact hP3) I2.bare
      exact z
    intro h' hns hsb
    have hk1 : ∀ b o, h3.get? b = some o → h'.get? b = some o := fun b o e => hsb.extBut b o (Nat.ne_of_lt (Heap.lt_size e)) (Heap.get?_push_of_some _ e)
    have szh : h'.objs.size = h3.objs.size + 1 := by rw [hsb.1, Heap.size_push]
    generalize hgo : ({ cls := .type "generator", data := .fields #[.int s2.gens.size 0, .str "<genexpr>" (tk + 1), .str (X.env.qual ++ "<genexpr>") (tk + 1 + 1)] } : Obj) = go
    have hk2 : ∀ b o, h3.get? b = some o → (h'.push go).get? b = some o := fun b o e => Heap.get?_push_of_some _ (hk1 b o e)
    have hat : (h'.push go).get? h'.objs.size = some go := Heap.get?_push_size _ (by rw [← hgo]; rfl)
    obtain ⟨W, ⟨m0, w0⟩, turn⟩ := hW (upd H2 P (.tbl (ps ++ more))) ⟨⟨ps ++ more, upd_same, by rw [← em]; exact ht3⟩, fun b hb => upd_ne hb⟩
    have f3 : ∀ b ∈ fp, FpOk X pins (upd H2 P (.tbl (ps ++ more))) b ∧ b < h3.objs.size := fun b hb => by
      obtain ⟨o, e, _⟩ := T.obj _ _ st2 b hb
      refine ⟨⟨by rw [upd_ne (nPfp b hb)]; exact (f2 b hb).1, (f2 b hb).2⟩, Nat.lt_of_lt_of_le (Heap.lt_size e) hsz⟩
    have st3 : tn 0 (h'.push go) := T.keep _ _ _ st2 fun b hb o e => hk2 b o (keep3 b o (nPfp b hb) e)
    have ag : h'.objs.size ≠ h3.objs.size := by rw [szh]; exact Nat.succ_ne_self _
    have hAd : X.A.in1.in1.over (gcode elt tg iter ifs scope gpos it (genEnv scope (cloFrom X.env.cells scope.names []) h3.objs.size code builtinsNs X.env)) [] = X.A.in1.in1.deeper (genEnv scope (cloFrom X.env.cells scope.names []) h3.objs.size code builtinsNs X.env) := over_gen
    have hrA : Room k (X.A.in1.in1.deeper (genEnv scope (cloFrom X.env.cells scope.names []) h3.objs.size code builtinsNs X.env)) :=
      ((((hr.in1).in1).deeper _).mono (by omega))
    have J0 := gx_start (Ag := X.A.in1.in1.deeper (genEnv scope (cloFrom X.env.cells scope.names []) h3.objs.size code builtinsNs X.env)) (code := code) (h5 := h'.push go)
      (g5 := s2.gens.push (.fresh (.compStart (.GeneratorExp elt [⟨tg, iter, ifs, 0⟩] scope gpos) 0 (.ref it) .none (genEnv scope (cloFrom X.env.cells scope.names []) h3.objs.size code builtinsNs X.env))))
      (t5 := tk + 1 + 1 + 1) (pn := [(h'.objs.size, go)]) I3 ok hr.hd (Around.frames_deeper I2.ok.frames) f3 hk2 (hns.push _) (I2.bare.push rfl) (fun p hp => by
        rw [List.mem_singleton.mp hp]
        refine ⟨hat, I3.hok.fresh (by show h3.objs.size ≤ h'.objs.size; omega), ag, fun z => ?_, fun v q => by rw [← hgo] at q; cases q⟩
        have z2 := I3.stkFree _ z
        rcases List.mem_cons.mp (I3.stkSub _ z) with y | y
        · have := I3.lt
          rw [← y] at this
          have t9 : h'.objs.size < h3.objs.size := this
          omega
        · exact I3.nofs (a := h'.objs.size) (by show h3.objs.size ≤ h'.objs.size; omega) y)
    generalize hge : genEnv scope (cloFrom X.env.cells scope.names []) h3.objs.size code builtinsNs X.env = ge at hAd hrA J0
    have hgesc : ge.scope = scope := by rw [← hge]; rfl
    have pgY := hpg (X.A.in1.in1.deeper ge) { s2 with heap := h3, toks := tk } (upd H2 P (.tbl (ps ++ more))) h3.objs.size (cloFrom X.env.cells scope.names []) code fp [(h'.objs.size, go)] (by rw [hge] at *; exact hrA)
    have ptY := hpt (X.A.in1.in1.deeper ge) { s2 with heap := h3, toks := tk } (upd H2 P (.tbl (ps ++ more))) h3.objs.size (cloFrom X.env.cells scope.names []) code fp [(h'.objs.size, go)] hrA
    have peY := hpe (X.A.in1.in1.deeper ge) { s2 with heap := h3, toks := tk } (upd H2 P (.tbl (ps ++ more))) h3.objs.size (cloFrom X.env.cells scope.names []) code fp [(h'.objs.size, go)] hrA
    rw [hge] at pgY ptY peY
    refine hQ _ _ ⟨h'.objs.size, s2.gens.size, m0 + 1, gX X (X.A.in1.in1.deeper ge) own cp { s2 with heap := h3, toks := tk } (upd H2 P (.tbl (ps ++ more))) ge fp [(h'.objs.size, go)], gS own cp σ, rfl, ?_, ?_, ?_⟩
    · intro H' s' I'
      have q := (I'.pin (h'.objs.size, go) (List.mem_append_left _ (List.mem_singleton.mpr rfl))).1
      exact ⟨⟨go, _, _, q, by rw [← hgo], by rw [← hgo], by rw [← hgo]⟩, I'.nolimit⟩
    · intro H' s' I'
      exact I3.call' (ch := fp) I'.os I'.base I'.hok I'.bare fun b hb => ⟨(f3 b hb).1.2.2.2.1, (f3 b hb).1.2.1, (f3 b hb).1.2.2.2.2.1, (f3 b hb).1.2.2.2.2.2⟩
    · refine ⟨by omega, ?_, J0.nolimit, J0.bare, _, Array.getElem?_push_size .., rfl, ?_⟩
      · exact ⟨go, _, _, hat, by rw [← hgo], by rw [← hgo], by rw [← hgo]⟩
      · refine seg_begin (prog := X.prog) (w := X.w) rfl (fun A Q E q => T.self A 0 _ Q E st3 q) ?_
        refine gx_loop (Y := gX X (X.A.in1.in1.deeper ge) own cp { s2 with heap := h3, toks := tk } (upd H2 P (.tbl (ps ++ more))) ge fp [(h'.objs.size, go)]) (vs := List.range own.length) (W := W) hAd (by show ge.scope.isCoroutine = false; rw [hgesc]; exact ok.co) rfl T rfl (fun {σ' H' s'} I' hn b hb => ?_) pgY ptY peY turn
          m0 0 0 (m0 + 1) _ _ (upd H2 P (.tbl (ps ++ more))) (by omega) (by omega) w0 (inv_same J0 rfl rfl (allBare_setGen J0.bare rfl)) st3 (fun b hb => (f3 b hb).1.1)
        refine ⟨hn b hb, (I'.ok.exf b hb).1, I'.ok.exfs b hb, .inl hb, fun x c e => (I'.ok.exf b hb).2 x c e, fun p hp z => ?_⟩
        have hp : p ∈ [(h'.objs.size, go)] ++ [] := hp
        rw [List.append_nil, List.mem_singleton] at hp
        rw [hp] at z
        have := (f3 b hb).2
        have z : h'.objs.size = b := z
        rw [szh] at z
        rw [← z] at this
        exact absurd (Nat.lt_of_succ_lt this) (Nat.lt_irrefl _)
  cases hf : codeAmong gpos ps.toList with
  | none =>
    refine wpAny_genexprCodeX hcode (cd.code hPs ht) (cd.tab hPs) hf fun c' h' tk hx hge hlt hco' _ htab' _ => ?_
    obtain ⟨o1, vs, f1, tf, fl, tg, inF, tx, tt, op, _, _, _, _, _, _, _, _, _, htr, _⟩ := hco'
    exact cont _ h' tk _ hx (Nat.le_trans hge (Nat.le_of_lt hlt)) htab'.2 ⟨_, rfl⟩ htr
  | some cv =>
    refine wpAny_genexprCode_hit hcode (cd.code hPs ht) hf ?_
    exact cont cv s2.heap s2.toks ps (Heap.ExtBut.refl _ _) (Nat.le_refl _) hPs ⟨#[], by simp⟩ ht

/-! ### the rules -/
variable {c P : Addr} {elt tg iter : Expr} {ifs : List Expr} {p pos gpos : Pos} {scope : Scope} {own : List Str} {cp : List (Str × Nat)} {wi : TI} {g : TG} {tt : TT} {te : TE} {k : Nat}
/-- all(elt for tg in iter if ..) -/
def tAllG (P : Addr) (own : List Str) (cp : List (Str × Nat)) (wi : TI) (g : TG) (tt : TT) (te : TE) : TE := fun σ H Q =>
  tGen P own cp wi g tt te (fun _ y H Nx => ∃ k, y = .bl k ∧ if k = true then Nx H else Q (.bl false) H) (fun _ H => Q (.bl true) H) σ H
def tAnyG (P : Addr) (own : List Str) (cp : List (Str × Nat)) (wi : TI) (g : TG) (tt : TT) (te : TE) : TE := fun σ H Q =>
  tGen P own cp wi g tt te (fun _ y H Nx => ∃ k, y = .bl k ∧ if k = true then Q (.bl true) H else Nx H) (fun _ H => Q (.bl false) H) σ H
theorem boot_all : bootBuiltins "all" = some (.builtin "all") := by decide +kernel
theorem boot_any' : bootBuiltins "any" = some (.builtin "any") := by decide +kernel

theorem pe_allG (hr : Room (k + 4) X.A) (hcalm : X.calm = true) (hg : Gl X "all") (hm : X.mg "all" = none) (TB : GxR.TabB X.base X.mg c P) (hcode : X.env.code = .ref c) (ok : GOk X.N X.env.scope scope own cp) (hi : PI X tg iter wi)
    (hpg : ∀ Ag s H C cl code fp pn, Room k Ag → PG (gX X Ag own cp s H (genEnv scope cl C code builtinsNs X.env) fp pn) tg g)
    (hpt : ∀ Ag s H C cl code fp pn, Room k Ag → PTs (gX X Ag own cp s H (genEnv scope cl C code builtinsNs X.env) fp pn) ifs tt)
    (hpe : ∀ Ag s H C cl code fp pn, Room k Ag → PE (gX X Ag own cp s H (genEnv scope cl C code builtinsNs X.env) fp pn) elt te)
    (hs : ∀ v, genFold iter X.env v = pure v := by intro _; rfl)
    (he : starEach [.GeneratorExp elt [⟨tg, iter, ifs, 0⟩] scope gpos] X.env = (false, eval (.GeneratorExp elt [⟨tg, iter, ifs, 0⟩] scope gpos) X.env) :: starEach [] X.env := by rfl) :
    PE X (.Call (.Name "all" p) [.GeneratorExp elt [⟨tg, iter, ifs, 0⟩] scope gpos] [] pos) (tAllG P own cp wi g tt te) := by
  refine ⟨fun pins s σ H Q I h => ?_⟩
  refine wpAny_Call_Name_kw (ld_blt I hg hm boot_all ?_)
  refine PyProof.Rows.callWith_builtin1 ?_ he (by rfl)
  rw [he]
  show wpAny _ _ (spliced ((false, eval (.GeneratorExp elt [⟨tg, iter, ifs, 0⟩] scope gpos) X.env) :: backTo pos (starEach [] X.env))) _ _ s
  refine Calls.spliced_cons (gx_gen hr hcalm TB hcode ok hi hpg hpt hpe hs I h fun v s5 hG => ?_)
  obtain ⟨a, gi, N0, Y, σ0, rfl, h1, h2, h3⟩ := hG
  refine Calls.spliced_nil ?_
  refine call_function_tree F.kind_all F.plain_all F.entry_all (F.args_all1 _) ?_
  unfold Builtin.«all»
  refine wpAny_bind (m := oneArg "all" _) (wpAny_pure ?_)
  refine wpAny_bind (wpAny_pyIter_gen h3.2.1 ?_)
  exact wpAny_pure ⟨plainId_quiet F.plain_all_loop _, all_gx (B := X.A) hr.hd hr.depth h1 (fun j H' s' I' q => ⟨.bl true, H', h2 I', rfl, q⟩) (fun H' s' I' q => ⟨.bl false, H', h2 I', rfl, q⟩) N0 s5 h3⟩

theorem pe_anyG (hr : Room (k + 4) X.A) (hcalm : X.calm = true) (hg : Gl X "any") (hm : X.mg "any" = none) (TB : GxR.TabB X.base X.mg c P) (hcode : X.env.code = .ref c) (ok : GOk X.N X.env.scope scope own cp) (hi : PI X tg iter wi)
    (hpg : ∀ Ag s H C cl code fp pn, Room k Ag → PG (gX X Ag own cp s H (genEnv scope cl C code builtinsNs X.env) fp pn) tg g)
    (hpt : ∀ Ag s H C cl code fp pn, Room k Ag → PTs (gX X Ag own cp s H (genEnv scope cl C code builtinsNs X.env) fp pn) ifs tt)
    (hpe : ∀ Ag s H C cl code fp pn, Room k Ag → PE (gX X Ag own cp s H (genEnv scope cl C code builtinsNs X.env) fp pn) elt te)
    (hs : ∀ v, genFold iter X.env v = pure v := by intro _; rfl)
    (he : starEach [.GeneratorExp elt [⟨tg, iter, ifs, 0⟩] scope gpos] X.env = (false, eval (.GeneratorExp elt [⟨tg, iter, ifs, 0⟩] scope gpos) X.env) :: starEach [] X.env := by rfl) :
    PE X (.Call (.Name "any" p) [.GeneratorExp elt [⟨tg, iter, ifs, 0⟩] scope gpos] [] pos) (tAnyG P own cp wi g tt te) := by
  refine ⟨fun pins s σ H Q I h => ?_⟩
  refine wpAny_Call_Name_kw (ld_blt I hg hm boot_any' ?_)
  refine PyProof.Rows.callWith_builtin1 ?_ he (by rfl)
  rw [he]
  show wpAny _ _ (spliced ((false, eval (.GeneratorExp elt [⟨tg, iter, ifs, 0⟩] scope gpos) X.env) :: backTo pos (starEach [] X.env))) _ _ s
  refine Calls.spliced_cons (gx_gen hr hcalm TB hcode ok hi hpg hpt hpe hs I h fun v s5 hG => ?_)
  obtain ⟨a, gi, N0, Y, σ0, rfl, h1, h2, h3⟩ := hG
  refine Calls.spliced_nil ?_
  refine call_function_tree F.kind_any F.plain_any F.entry_any (F.args_any1 _) ?_
  unfold Builtin.«any»
  refine wpAny_bind (m := oneArg "any" _) (wpAny_pure ?_)
  refine wpAny_bind (wpAny_pyIter_gen h3.2.1 ?_)
  exact wpAny_pure ⟨plainId_quiet F.plain_any_loop _, any_gx (B := X.A) hr.hd hr.depth h1 (fun j H' s' I' q => ⟨.bl false, H', h2 I', rfl, q⟩) (fun H' s' I' q => ⟨.bl true, H', h2 I', rfl, q⟩) N0 s5 h3⟩
end
end Gx
end
section
set_option Elab.async false
set_option linter.all false
set_option maxRecDepth 100000
set_option maxHeartbeats 2000000
/-! Values as data: what stands in the heap is told by data (D), the heap itself is put away.
F: the part of the heap that never changes; O: the objects that may be written, each with what it holds; T: the tables of code objects. -/
namespace Al
open PySem PySem.Spec PyProof.Rows L2

inductive D where
  | non | bl (b : Bool) | int (i : Int) | str (x : Str) | tup (l : List D) | lst (l : List D) | dic
  | raw (v : V)
  /-- a list that may only be read (the script) -/
  | scr (l : List D)

mutual
def Rp (K : PySem.W.Frag) (F : Hp) : D → V → Prop
  | .non, v => v = .non
  | .bl b, v => v = .bl b
  | .int i, v => v = .int i
  | .str x, v => v = .str x
  | .tup l, v => ∃ a vs, v = .ref a ∧ SqT K F a vs ∧ RpL K F l vs
  | .lst l, v => ∃ a vs, v = .ref a ∧ F a = some (.lst vs) ∧ RpL K F l vs
  | .scr l, v => ∃ a vs, v = .ref a ∧ SqL K F a vs ∧ RpL K F l vs
  | .dic, v => ∃ a, v = .ref a ∧ F a = some (.dK [])
  | .raw x, v => v = x
def RpL (K : PySem.W.Frag) (F : Hp) : List D → List V → Prop
  | [], vs => vs = []
  | d :: l, vs => ∃ v r, vs = v :: r ∧ Rp K F d v ∧ RpL K F l r
end

/-- extension -/
def Ex (H H' : Hp) : Prop := ∀ a o, H a = some o → H' a = some o
theorem Ex.refl (H : Hp) : Ex H H := fun _ _ h => h
theorem Ex.trans {H H1 H2 : Hp} (a : Ex H H1) (b : Ex H1 H2) : Ex H H2 := fun x o h => b x o (a x o h)
theorem Ex.new {H : Hp} {p : Addr} {o : HO} (h : H p = none) : Ex H (upd H p o) := fun a u e => by
  rw [upd_ne (ne_of_none e h)]
  exact e
theorem Ex.back {H H' : Hp} {p : Addr} (e : Ex H H') (h : H' p = none) : H p = none := by
  cases q : H p with
  | none => rfl
  | some o => rw [e p o q] at h; cases h
theorem Ex.up {H H' : Hp} {p : Addr} {o : HO} (e : Ex H H') (h : H p = none) : Ex (upd H p o) (upd H' p o) := fun a u q => by
  by_cases z : a = p
  · subst z; rw [upd_same] at q ⊢; exact q
  · rw [upd_ne z] at q ⊢; exact e a u q
theorem Ex.off {H H' : Hp} {p : Addr} {o : HO} (e : Ex H H') (h : H p = none) : Ex H (upd H' p o) := fun a u q => by
  rw [upd_ne (ne_of_none q h)]
  exact e a u q
variable {K : PySem.W.Frag}
theorem Ex.seqL {H H' : Hp} {a : Addr} {xs : List V} (e : Ex H H') (h : SqL K H a xs) : SqL K H' a xs := Same.seq (fun b o q => e b o q) h
theorem Ex.seqT {H H' : Hp} {a : Addr} {xs : List V} (e : Ex H H') (h : SqT K H a xs) : SqT K H' a xs := by
  rcases h with (h | ⟨o, h⟩) | h
  · exact .inl (.inl (e _ _ h))
  · exact .inl (.inr ⟨o, e _ _ h⟩)
  · exact .inr h
mutual
theorem Rp.mono {F F' : Hp} (e : Ex F F') : ∀ (d : D) (v : V), Rp K F d v → Rp K F' d v
  | .non, v, h => h
  | .bl _, v, h => h
  | .int _, v, h => h
  | .str _, v, h => h
  | .tup l, v, h => by
    obtain ⟨a, vs, h1, h2, h3⟩ := h
    exact ⟨a, vs, h1, e.seqT h2, RpL.mono e l vs h3⟩
  | .lst l, v, h => by
    obtain ⟨a, vs, h1, h2, h3⟩ := h
    exact ⟨a, vs, h1, e _ _ h2, RpL.mono e l vs h3⟩
  | .scr l, v, h => by
    obtain ⟨a, vs, h1, h2, h3⟩ := h
    exact ⟨a, vs, h1, e.seqL h2, RpL.mono e l vs h3⟩
  | .dic, v, h => by
    obtain ⟨a, h1, h2⟩ := h
    exact ⟨a, h1, e _ _ h2⟩
  | .raw _, v, h => h
theorem RpL.mono {F F' : Hp} (e : Ex F F') : ∀ (l : List D) (vs : List V), RpL K F l vs → RpL K F' l vs
  | [], vs, h => h
  | d :: l, vs, h => by
    obtain ⟨v, r, h1, h2, h3⟩ := h
    exact ⟨v, r, h1, Rp.mono e d v h2, RpL.mono e l r h3⟩
end
theorem RpL.length {F : Hp} : ∀ {l : List D} {vs : List V}, RpL K F l vs → vs.length = l.length
  | [], vs, h => by rw [show vs = [] from h]; rfl
  | d :: l, vs, h => by
    obtain ⟨v, r, rfl, _, h3⟩ := h
    rw [List.length_cons, List.length_cons, RpL.length h3]
theorem RpL.get {F : Hp} : ∀ {l : List D} {vs : List V} {i : Nat} {d : D}, RpL K F l vs → l[i]? = some d → ∃ v, vs[i]? = some v ∧ Rp K F d v
  | [], _, _, _, _, e => by simp at e
  | x :: l, vs, 0, d, h, e => by
    obtain ⟨v, r, rfl, h2, _⟩ := h
    simp at e; subst e
    exact ⟨v, rfl, h2⟩
  | x :: l, vs, i + 1, d, h, e => by
    obtain ⟨v, r, rfl, _, h3⟩ := h
    obtain ⟨u, h1, h2⟩ := RpL.get (i := i) h3 (by simpa using e)
    exact ⟨u, by simpa using h1, h2⟩
theorem RpL.append {F : Hp} : ∀ {l m : List D} {vs us : List V}, RpL K F l vs → RpL K F m us → RpL K F (l ++ m) (vs ++ us)
  | [], m, vs, us, h, k => by rw [show vs = [] from h]; exact k
  | d :: l, m, vs, us, h, k => by
    obtain ⟨v, r, rfl, h2, h3⟩ := h
    exact ⟨v, r ++ us, rfl, h2, RpL.append h3 k⟩
theorem RpL.one {F : Hp} {d : D} {v : V} (h : Rp K F d v) : RpL K F [d] [v] := ⟨v, [], rfl, h, rfl⟩
theorem RpL.drop {F : Hp} : ∀ {l : List D} {vs : List V} (n : Nat), RpL K F l vs → RpL K F (l.drop n) (vs.drop n)
  | _, _, 0, h => h
  | [], vs, n + 1, h => by rw [show vs = [] from h]; exact rfl
  | d :: l, vs, n + 1, h => by
    obtain ⟨v, r, rfl, _, h3⟩ := h
    exact RpL.drop n h3
theorem RpL.take {F : Hp} : ∀ {l : List D} {vs : List V} (n : Nat), RpL K F l vs → RpL K F (l.take n) (vs.take n)
  | _, _, 0, h => rfl
  | [], vs, n + 1, h => by rw [show vs = [] from h]; exact rfl
  | d :: l, vs, n + 1, h => by
    obtain ⟨v, r, rfl, h2, h3⟩ := h
    exact ⟨v, r.take n, rfl, h2, RpL.take n h3⟩
theorem RpL.reverse {F : Hp} : ∀ {l : List D} {vs : List V}, RpL K F l vs → RpL K F l.reverse vs.reverse
  | [], vs, h => by rw [show vs = [] from h]; exact rfl
  | d :: l, vs, h => by
    obtain ⟨v, r, rfl, h2, h3⟩ := h
    rw [List.reverse_cons, List.reverse_cons]
    exact (RpL.reverse h3).append (.one h2)
theorem RpL.set {F : Hp} : ∀ {l : List D} {vs : List V} (n : Nat) {d : D} {v : V}, RpL K F l vs → Rp K F d v → RpL K F (l.set n d) (vs.set n v)
  | [], vs, n, d, v, h, k => by rw [show vs = [] from h]; exact rfl
  | x :: l, vs, 0, d, v, h, k => by
    obtain ⟨u, r, rfl, _, h3⟩ := h
    exact ⟨v, r, rfl, k, h3⟩
  | x :: l, vs, n + 1, d, v, h, k => by
    obtain ⟨u, r, rfl, h2, h3⟩ := h
    exact ⟨u, r.set n v, rfl, h2, RpL.set n h3 k⟩
theorem RpL.eraseIdx {F : Hp} : ∀ {l : List D} {vs : List V} (n : Nat), RpL K F l vs → RpL K F (l.eraseIdx n) (vs.eraseIdx n)
  | [], vs, n, h => by rw [show vs = [] from h]; exact rfl
  | x :: l, vs, 0, h => by
    obtain ⟨u, r, rfl, _, h3⟩ := h
    exact h3
  | x :: l, vs, n + 1, h => by
    obtain ⟨u, r, rfl, h2, h3⟩ := h
    exact ⟨u, r.eraseIdx n, rfl, h2, RpL.eraseIdx n h3⟩
theorem RpL.map {F : Hp} {α : Type} {f : α → D} {g : α → V} (h : ∀ a, Rp K F (f a) (g a)) : ∀ l : List α, RpL K F (l.map f) (l.map g)
  | [] => rfl
  | a :: l => ⟨g a, l.map g, rfl, h a, RpL.map h l⟩

/-- what a slot holds: nothing that is known, data, an object that may be written -/
inductive Sl where
  | u | d (x : D) | o (a : Addr)
def SlV (K : PySem.W.Frag) (F : Hp) : Sl → V → Prop
  | .u, _ => False
  | .d x, v => Rp K F x v
  | .o a, v => v = .ref a
theorem SlV.mono {F F' : Hp} (e : Ex F F') {s : Sl} {v : V} (h : SlV K F s v) : SlV K F' s v := by
  cases s with
  | u => exact h
  | d x => exact Rp.mono e x v h
  | o a => exact h
/-- the entries of a dict -/
def KvR (K : PySem.W.Frag) (F : Hp) : List (L2.Key × Sl) → List (L2.Key × V) → Prop
  | [], vs => vs = []
  | p :: l, vs => ∃ v r, vs = (p.1, v) :: r ∧ SlV K F p.2 v ∧ KvR K F l r
theorem KvR.mono {F F' : Hp} (e : Ex F F') : ∀ {l : List (L2.Key × Sl)} {vs : List (L2.Key × V)}, KvR K F l vs → KvR K F' l vs
  | [], _, h => h
  | p :: l, vs, h => by
    obtain ⟨v, r, h1, h2, h3⟩ := h
    exact ⟨v, r, h1, h2.mono e, KvR.mono e h3⟩
/-! ### the world -/
/-- what an object that may be written holds -/
inductive C where
  /-- a list of data -/
  | ls (l : List D)
  /-- anything, as it stands -/
  | ho (o : HO)
  /-- a dict -/
  | dk (l : List (L2.Key × Sl))
  /-- a table of code objects, all of the name q -/
  | tb (q : Str)
abbrev Own := List (Addr × C)
def adr : Addr × C → List Addr
  | (a, .ls _) => [a]
  | (a, .ho _) => [a]
  | (a, .dk _) => [a]
  | (a, .tb _) => [a]
def holds (K : PySem.W.Frag) (F H : Hp) : Addr × C → Prop
  | (a, .ls l) => ∃ vs, H a = some (.lst vs) ∧ RpL K F l vs
  | (a, .ho o) => H a = some o ∧ ∀ ps, o ≠ .tbl ps
  | (a, .dk l) => ∃ vs, H a = some (.dK vs) ∧ KvR K F l vs
  | (a, .tb q) => ∃ rows : Array Value, H a = some (.tbl rows) ∧ TriplesOk rows.toList ∧ ∀ (pos : Pos) (cv : Value), codeAmong pos rows.toList = some cv → ∃ k, cv = .ref k ∧ F k = some (LamX.CodeO k q)
structure Wd (K : PySem.W.Frag) (T : List Addr) (F : Hp) (O : Own) (H : Hp) : Prop where
  ex : Ex F H
  own : ∀ p ∈ O, holds K F H p
  off : ∀ p ∈ O, ∀ a ∈ adr p, F a = none
  nd : (O.flatMap adr).Nodup
  tab : ∀ P ∈ T, GxR.TabG H P ∧ F P = none
  dis : ∀ p ∈ O, ∀ a ∈ adr p, a ∉ T
variable {T : List Addr}
theorem holds.mono {F F' H H' : Hp} {p : Addr × C} (h : holds K F H p) (e : Ex F F') (k : ∀ a ∈ adr p, ∀ o, H a = some o → H' a = some o) : holds K F' H' p := by
  obtain ⟨a, c⟩ := p
  cases c with
  | ls l => obtain ⟨vs, h1, h2⟩ := h; exact ⟨vs, k a (by simp [adr]) _ h1, RpL.mono e _ _ h2⟩
  | ho o => exact ⟨k a (by simp [adr]) _ h.1, h.2⟩
  | dk l => obtain ⟨vs, h1, h2⟩ := h; exact ⟨vs, k a (by simp [adr]) _ h1, h2.mono e⟩
  | tb q => obtain ⟨rows, h1, h2, h3⟩ := h; exact ⟨rows, k a (by simp [adr]) _ h1, h2, fun pos cv hc => (h3 pos cv hc).elim fun c hc => ⟨c, hc.1, e _ _ hc.2⟩⟩
/-- an own object stands -/
theorem holds.some {F H : Hp} {p : Addr × C} (h : holds K F H p) : ∀ a ∈ adr p, ∃ o, H a = some o := by
  obtain ⟨a, c⟩ := p
  intro b hb
  cases c with
  | ls l => obtain ⟨vs, h1, _⟩ := h; rw [show b = a by simpa [adr] using hb]; exact ⟨_, h1⟩
  | ho o => rw [show b = a by simpa [adr] using hb]; exact ⟨_, h.1⟩
  | dk l => obtain ⟨vs, h1, _⟩ := h; rw [show b = a by simpa [adr] using hb]; exact ⟨_, h1⟩
  | tb q => obtain ⟨rows, h1, _⟩ := h; rw [show b = a by simpa [adr] using hb]; exact ⟨_, h1⟩
theorem TabG.mono {H H' : Hp} {P : Addr} (h : GxR.TabG H P) (k : ∀ o, H P = some o → H' P = some o) : GxR.TabG H' P := by
  obtain ⟨ps, h1, h2⟩ := h
  exact ⟨ps, k _ h1, h2⟩
/-- a new object of the part that stays -/
theorem Wd.new {F : Hp} {O : Own} {H : Hp} {p : Addr} {o : HO} (w : Wd K T F O H) (h : H p = none) : Wd K T (upd F p o) O (upd H p o) where
  ex := w.ex.up (w.ex.back h)
  own := fun q hq => (w.own q hq).mono (Ex.new (w.ex.back h)) fun a ha u e => by rw [upd_ne (ne_of_none e h)]; exact e
  off := fun q hq a ha => by
    obtain ⟨u, e⟩ := (w.own q hq).some a ha
    rw [upd_ne (ne_of_none e h)]
    exact w.off q hq a ha
  nd := w.nd
  tab := fun P hP => by
    obtain ⟨h1, h2⟩ := w.tab P hP
    have nP : P ≠ p := by obtain ⟨ps, q, _⟩ := h1; exact ne_of_none q h
    exact ⟨TabG.mono h1 fun u e => by rw [upd_ne nP]; exact e, by rw [upd_ne nP]; exact h2⟩
  dis := w.dis
/-- a new object that may be written -/
theorem Wd.newO {F : Hp} {O : Own} {H : Hp} {p : Addr} {o : HO} {c : C} (w : Wd K T F O H) (h : H p = none) (ha : adr (p, c) = [p]) (hc : holds K F (upd H p o) (p, c)) : Wd K T F ((p, c) :: O) (upd H p o) where
  ex := w.ex.off (w.ex.back h)
  own := fun q hq => by
    rcases List.mem_cons.mp hq with rfl | hq
    · exact hc
    · exact (w.own q hq).mono (Ex.refl F) fun a ha u e => by rw [upd_ne (ne_of_none e h)]; exact e
  off := fun q hq a hqa => by
    rcases List.mem_cons.mp hq with rfl | hq
    · rw [ha] at hqa
      rw [List.mem_singleton.mp hqa]
      exact w.ex.back h
    · exact w.off q hq a hqa
  nd := by
    rw [List.flatMap_cons, ha, List.singleton_append, List.nodup_cons]
    refine ⟨fun z => ?_, w.nd⟩
    obtain ⟨q, hq, hqa⟩ := List.mem_flatMap.mp z
    obtain ⟨u, e⟩ := (w.own q hq).some p hqa
    rw [h] at e; cases e
  tab := fun P hP => by
    obtain ⟨h1, h2⟩ := w.tab P hP
    have nP : P ≠ p := by obtain ⟨ps, q, _⟩ := h1; exact ne_of_none q h
    exact ⟨TabG.mono h1 fun u e => by rw [upd_ne nP]; exact e, h2⟩
  dis := fun q hq a hqa hT => by
    rcases List.mem_cons.mp hq with rfl | hq
    · rw [ha] at hqa
      obtain ⟨ps, e, _⟩ := (w.tab a hT).1
      rw [List.mem_singleton.mp hqa, h] at e
      cases e
    · exact w.dis q hq a hqa hT
/-- an own object is written: the head of O -/
theorem Wd.write {F : Hp} {O : Own} {H : Hp} {p : Addr} {o : HO} {c c' : C} (w : Wd K T F ((p, c) :: O) H) (ha : adr (p, c) = [p]) (ha' : adr (p, c') = [p]) (nt : ∀ ps, H p ≠ some (.tbl ps)) (hc : holds K F (upd H p o) (p, c')) : Wd K T F ((p, c') :: O) (upd H p o) := by
  have hp : F p = none := w.off _ List.mem_cons_self p (by rw [ha]; exact List.mem_singleton.mpr rfl)
  have nd := w.nd
  rw [List.flatMap_cons, ha, List.singleton_append, List.nodup_cons] at nd
  refine ⟨w.ex.off hp, fun q hq => ?_, fun q hq a hqa => ?_, ?_, fun P hP => ?_, fun q hq a hqa => ?_⟩
  · rcases List.mem_cons.mp hq with rfl | hq
    · exact hc
    · refine (w.own q (List.mem_cons_of_mem _ hq)).mono (Ex.refl F) fun a ha u e => ?_
      rw [upd_ne fun z => nd.1 (List.mem_flatMap.mpr ⟨q, hq, by rw [← z]; exact ha⟩)]
      exact e
  · rcases List.mem_cons.mp hq with rfl | hq
    · rw [ha'] at hqa
      rw [List.mem_singleton.mp hqa]
      exact hp
    · exact w.off q (List.mem_cons_of_mem _ hq) a hqa
  · rw [List.flatMap_cons, ha', List.singleton_append, List.nodup_cons]
    exact nd
  · obtain ⟨h1, h2⟩ := w.tab P hP
    have nP : P ≠ p := by
      obtain ⟨ps, q, _⟩ := h1
      intro z
      rw [z] at q
      exact nt ps q
    exact ⟨TabG.mono h1 fun u e => by rw [upd_ne nP]; exact e, h2⟩
  · rcases List.mem_cons.mp hq with rfl | hq
    · exact w.dis _ List.mem_cons_self a (by rw [ha]; rw [ha'] at hqa; exact hqa)
    · exact w.dis q (List.mem_cons_of_mem _ hq) a hqa
/-- an own list goes over to what stays -/
theorem Wd.freeze {F : Hp} {O : Own} {H : Hp} {p : Addr} {l : List D} (w : Wd K T F ((p, .ls l) :: O) H) : ∃ vs, Wd K T (upd F p (.lst vs)) O H ∧ Ex F (upd F p (.lst vs)) ∧ Rp K (upd F p (.lst vs)) (.lst l) (.ref p) := by
  obtain ⟨vs, h1, h2⟩ := w.own _ List.mem_cons_self
  have hp : F p = none := w.off _ List.mem_cons_self p (by simp [adr])
  have nd := w.nd
  rw [List.flatMap_cons, show adr (p, C.ls l) = [p] from rfl, List.singleton_append, List.nodup_cons] at nd
  have e : Ex F (upd F p (.lst vs)) := Ex.new hp
  have np : ∀ q ∈ O, ∀ a ∈ adr q, a ≠ p := fun q hq a ha z => nd.1 (List.mem_flatMap.mpr ⟨q, hq, by rw [← z]; exact ha⟩)
  refine ⟨vs, ⟨fun a u q => ?_, fun q hq => (w.own q (List.mem_cons_of_mem _ hq)).mono e fun a _ u z => z, fun q hq a ha => ?_, nd.2, fun P hP => ?_, fun q hq => w.dis q (List.mem_cons_of_mem _ hq)⟩, e, p, vs, rfl, upd_same, RpL.mono e _ _ h2⟩
  · by_cases z : a = p
    · subst z; rw [upd_same] at q; cases q; exact h1
    · rw [upd_ne z] at q; exact w.ex a u q
  · rw [upd_ne (np q hq a ha)]
    exact w.off q (List.mem_cons_of_mem _ hq) a ha
  · obtain ⟨h3, h4⟩ := w.tab P hP
    have nP : P ≠ p := by
      obtain ⟨ps, q, _⟩ := h3
      intro z
      rw [z, h1] at q
      cases q
    exact ⟨h3, by rw [upd_ne nP]; exact h4⟩
/-- the order of the own objects is free -/
theorem Wd.perm {F : Hp} {O O' : Own} {H : Hp} (w : Wd K T F O H) (p : O.Perm O') : Wd K T F O' H :=
  ⟨w.ex, fun q hq => w.own q (p.mem_iff.mpr hq), fun q hq => w.off q (p.mem_iff.mpr hq), (List.Perm.nodup_iff (p.flatMap_right adr)).mp w.nd, w.tab, fun q hq => w.dis q (p.mem_iff.mpr hq)⟩
/-- an own object is let go -/
theorem Wd.drop {F : Hp} {O : Own} {H : Hp} {q : Addr × C} (w : Wd K T F (q :: O) H) : Wd K T F O H :=
  ⟨w.ex, fun p hp => w.own p (List.mem_cons_of_mem _ hp), fun p hp => w.off p (List.mem_cons_of_mem _ hp), by have := w.nd; rw [List.flatMap_cons] at this; exact (List.nodup_append.mp this).2.1, w.tab, fun p hp => w.dis p (List.mem_cons_of_mem _ hp)⟩
/-- a table has grown -/
theorem Wd.tabbed {F : Hp} {O : Own} {H H' : Hp} {P : Addr} (w : Wd K T F O H) (hP : P ∈ T) (h : GxR.Tabbed P H H') : Wd K T F O H' := by
  have hF : F P = none := (w.tab P hP).2
  have np : ∀ q ∈ O, ∀ a ∈ adr q, a ≠ P := fun q hq a ha z => w.dis q hq a ha (by rw [z]; exact hP)
  refine ⟨fun a o e => ?_, fun q hq => (w.own q hq).mono (Ex.refl F) fun a ha u e => by rw [h.2 a (np q hq a ha)]; exact e, w.off, w.nd, fun P' hP' => ⟨?_, (w.tab P' hP').2⟩, w.dis⟩
  · rw [h.2 a (fun z => by rw [z, hF] at e; cases e)]
    exact w.ex a o e
  · by_cases z : P' = P
    · rw [z]; exact h.1
    · exact TabG.mono (w.tab P' hP').1 fun o e => by rw [h.2 P' z]; exact e
end Al
end
section
set_option Elab.async false
set_option linter.all false
set_option maxRecDepth 100000
set_option maxHeartbeats 2000000
/-! Readings run on data: RunE, RunA, RunT, RunS; the heap is put away. -/
namespace Al
open PySem PySem.Spec PyProof.Rows L2
variable {K : PySem.W.Frag} {T : List Addr}

abbrev Rho := List Sl
def SlO (K : PySem.W.Frag) (F : Hp) : Sl → Option V → Prop
  | .u, _ => True
  | s, x => ∃ v, x = some v ∧ SlV K F s v
def Env (K : PySem.W.Frag) (F : Hp) : Rho → L2.St → Prop
  | [], σ => σ = []
  | s :: ρ, σ => ∃ x r, σ = x :: r ∧ SlO K F s x ∧ Env K F ρ r
theorem SlO.mono {F F' : Hp} (e : Ex F F') {s : Sl} {x : Option V} (h : SlO K F s x) : SlO K F' s x := by
  cases s with
  | u => exact h
  | d y => obtain ⟨v, h1, h2⟩ := h; exact ⟨v, h1, SlV.mono e (s := .d y) h2⟩
  | o a => exact h
theorem Env.mono {F F' : Hp} (e : Ex F F') : ∀ {ρ : Rho} {σ : L2.St}, Env K F ρ σ → Env K F' ρ σ
  | [], _, h => h
  | s :: ρ, σ, h => by
    obtain ⟨x, r, h1, h2, h3⟩ := h
    exact ⟨x, r, h1, h2.mono e, Env.mono e h3⟩
theorem Env.get {F : Hp} : ∀ {ρ : Rho} {σ : L2.St} {i : Nat} {s : Sl}, Env K F ρ σ → ρ[i]? = some s → s ≠ .u → ∃ v, σ[i]? = some (some v) ∧ SlV K F s v
  | [], _, _, _, _, e, _ => by simp at e
  | t :: ρ, σ, 0, s, h, e, n => by
    obtain ⟨x, r, rfl, h2, _⟩ := h
    have e : t = s := by simpa using e
    subst e
    cases t with
    | u => exact absurd rfl n
    | d y => obtain ⟨v, rfl, h2⟩ := h2; exact ⟨v, rfl, h2⟩
    | o a => obtain ⟨v, rfl, h2⟩ := h2; exact ⟨v, rfl, h2⟩
  | t :: ρ, σ, i + 1, s, h, e, n => by
    obtain ⟨x, r, rfl, _, h3⟩ := h
    obtain ⟨v, h4, h5⟩ := Env.get (i := i) h3 (by simpa using e) n
    exact ⟨v, by simpa using h4, h5⟩
theorem SlV.o {F : Hp} {s : Sl} {v : V} (h : SlV K F s v) : SlO K F s (some v) := by
  cases s with
  | u => trivial
  | d y => exact ⟨v, rfl, h⟩
  | o a => exact ⟨v, rfl, h⟩
theorem Env.set {F : Hp} : ∀ {ρ : Rho} {σ : L2.St} (i : Nat) {s : Sl} {x : Option V}, Env K F ρ σ → SlO K F s x → Env K F (ρ.set i s) (σ.set i x)
  | [], σ, i, s, x, h, k => by rw [show σ = [] from h]; exact rfl
  | t :: ρ, σ, 0, s, x, h, k => by
    obtain ⟨y, r, rfl, _, h3⟩ := h
    exact ⟨x, r, rfl, k, h3⟩
  | t :: ρ, σ, i + 1, s, x, h, k => by
    obtain ⟨y, r, rfl, h2, h3⟩ := h
    exact ⟨y, r.set i x, rfl, h2, Env.set i h3 k⟩
theorem Env.len {F : Hp} : ∀ {ρ : Rho} {σ : L2.St}, Env K F ρ σ → σ.length = ρ.length
  | [], σ, h => by rw [show σ = [] from h]; rfl
  | t :: ρ, σ, h => by
    obtain ⟨x, r, rfl, _, h3⟩ := h
    rw [List.length_cons, List.length_cons, Env.len h3]
/-- a slot is forgotten -/
theorem Env.forget {F : Hp} : ∀ {ρ : Rho} {σ : L2.St} (i : Nat), Env K F ρ σ → Env K F (ρ.set i .u) σ
  | [], σ, i, h => h
  | t :: ρ, σ, 0, h => by
    obtain ⟨x, r, rfl, _, h3⟩ := h
    exact ⟨x, r, rfl, trivial, h3⟩
  | t :: ρ, σ, i + 1, h => by
    obtain ⟨x, r, rfl, h2, h3⟩ := h
    exact ⟨x, r, rfl, h2, Env.forget i h3⟩
def Args (K : PySem.W.Frag) (F : Hp) : List Sl → List V → Prop
  | [], vs => vs = []
  | s :: ss, vs => ∃ v r, vs = v :: r ∧ SlV K F s v ∧ Args K F ss r
theorem Args.mono {F F' : Hp} (e : Ex F F') : ∀ {ss : List Sl} {vs : List V}, Args K F ss vs → Args K F' ss vs
  | [], _, h => h
  | s :: ss, vs, h => by
    obtain ⟨v, r, h1, h2, h3⟩ := h
    exact ⟨v, r, h1, h2.mono e, Args.mono e h3⟩
theorem Args.length {F : Hp} : ∀ {ss : List Sl} {vs : List V}, Args K F ss vs → vs.length = ss.length
  | [], vs, h => by rw [show vs = [] from h]; rfl
  | s :: ss, vs, h => by
    obtain ⟨v, r, rfl, _, h3⟩ := h
    rw [List.length_cons, List.length_cons, Args.length h3]
theorem Args.env {F : Hp} : ∀ {ss : List Sl} {vs : List V}, Args K F ss vs → Env K F ss (vs.map some)
  | [], vs, h => by rw [show vs = [] from h]; exact rfl
  | s :: ss, vs, h => by
    obtain ⟨v, r, rfl, h2, h3⟩ := h
    exact ⟨some v, r.map some, rfl, h2.o, Args.env h3⟩
theorem Env.append {F : Hp} : ∀ {ρ ρ' : Rho} {σ σ' : L2.St}, Env K F ρ σ → Env K F ρ' σ' → Env K F (ρ ++ ρ') (σ ++ σ')
  | [], ρ', σ, σ', h, k => by rw [show σ = [] from h]; exact k
  | s :: ρ, ρ', σ, σ', h, k => by
    obtain ⟨x, r, rfl, h2, h3⟩ := h
    exact ⟨x, r ++ σ', rfl, h2, Env.append h3 k⟩
theorem Env.us {F : Hp} : ∀ {n : Nat} {σ : L2.St}, σ.length = n → Env K F (List.replicate n .u) σ
  | 0, σ, h => List.eq_nil_of_length_eq_zero h
  | n + 1, [], h => by cases h
  | n + 1, x :: σ, h => ⟨x, σ, rfl, trivial, Env.us (by simpa using h)⟩
theorem args_data {F : Hp} : ∀ {ds : List D} {vs : List V}, Args K F (ds.map Sl.d) vs → RpL K F ds vs
  | [], vs, h => h
  | d :: ds, vs, h => by
    obtain ⟨v, r, h1, h2, h3⟩ := h
    exact ⟨v, r, h1, h2, args_data h3⟩

/-! ### judgements -/
abbrev PV := Sl → Own → Prop
/-- an expression -/
def RunE (K : PySem.W.Frag) (T : List Addr) (te : TE) (ρ : Rho) (O : Own) (P : PV) : Prop := ∀ (F H : Hp) (Ξ : Own) (σ : L2.St), Wd K T F (O ++ Ξ) H → Env K F ρ σ →
  ∀ Q : VK, (∀ v s F' O' H', Ex F F' → Wd K T F' (O' ++ Ξ) H' → SlV K F' s v → P s O' → Q v H') → te σ H Q
def RunT (K : PySem.W.Frag) (T : List Addr) (tt : TT) (ρ : Rho) (O : Own) (P : Bool → Own → Prop) : Prop := ∀ (F H : Hp) (Ξ : Own) (σ : L2.St), Wd K T F (O ++ Ξ) H → Env K F ρ σ →
  ∀ Q : Bool → Hp → Prop, (∀ b F' O' H', Ex F F' → Wd K T F' (O' ++ Ξ) H' → P b O' → Q b H') → tt σ H Q
def RunA (K : PySem.W.Frag) (T : List Addr) (ta : TA) (ρ : Rho) (O : Own) (P : List Sl → Own → Prop) : Prop := ∀ (F H : Hp) (Ξ : Own) (σ : L2.St), Wd K T F (O ++ Ξ) H → Env K F ρ σ →
  ∀ Q : List V → Hp → Prop, (∀ vs ss F' O' H', Ex F F' → Wd K T F' (O' ++ Ξ) H' → Args K F' ss vs → P ss O' → Q vs H') → ta σ H Q
/-- a two-place operation on values; a call on values -/
def RunR (K : PySem.W.Frag) (T : List Addr) (r : R2) (x y : Sl) (O : Own) (P : PV) : Prop := ∀ (F H : Hp) (Ξ : Own) (vx vy : V), Wd K T F (O ++ Ξ) H → SlV K F x vx → SlV K F y vy →
  ∀ Q : VK, (∀ v s F' O' H', Ex F F' → Wd K T F' (O' ++ Ξ) H' → SlV K F' s v → P s O' → Q v H') → r vx vy H Q
def RunC (K : PySem.W.Frag) (T : List Addr) (r : List V → Hp → VK → Prop) (xs : List Sl) (O : Own) (P : PV) : Prop := ∀ (F H : Hp) (Ξ : Own) (vs : List V), Wd K T F (O ++ Ξ) H → Args K F xs vs →
  ∀ Q : VK, (∀ v s F' O' H', Ex F F' → Wd K T F' (O' ++ Ξ) H' → SlV K F' s v → P s O' → Q v H') → r vs H Q
def RunU (K : PySem.W.Frag) (T : List Addr) (r : V → Hp → VK → Prop) (x : Sl) (O : Own) (P : PV) : Prop := ∀ (F H : Hp) (Ξ : Own) (vx : V), Wd K T F (O ++ Ξ) H → SlV K F x vx →
  ∀ Q : VK, (∀ v s F' O' H', Ex F F' → Wd K T F' (O' ++ Ξ) H' → SlV K F' s v → P s O' → Q v H') → r vx H Q
/-- what is wanted behind a statement -/
structure Po where
  nx : Rho → Own → Prop
  rt : PV
  bk : Rho → Own → Prop := fun _ _ => False
  ct : Rho → Own → Prop := fun _ _ => False
structure EndsOk (K : PySem.W.Frag) (T : List Addr) (F : Hp) (Ξ : Own) (Po : Po) (D : Ends) : Prop where
  nx : ∀ ρ O F' H σ, Ex F F' → Wd K T F' (O ++ Ξ) H → Env K F' ρ σ → Po.nx ρ O → D.nx σ H
  rt : ∀ s v O F' H, Ex F F' → Wd K T F' (O ++ Ξ) H → SlV K F' s v → Po.rt s O → D.rt v H
  bk : ∀ ρ O F' H σ, Ex F F' → Wd K T F' (O ++ Ξ) H → Env K F' ρ σ → Po.bk ρ O → D.bk σ H
  ct : ∀ ρ O F' H σ, Ex F F' → Wd K T F' (O ++ Ξ) H → Env K F' ρ σ → Po.ct ρ O → D.ct σ H
theorem EndsOk.mono {F F' : Hp} {Ξ : Own} {P : Po} {D : Ends} (h : EndsOk K T F Ξ P D) (e : Ex F F') : EndsOk K T F' Ξ P D :=
  ⟨fun ρ O G H σ q => h.nx ρ O G H σ (e.trans q), fun s v O G H q => h.rt s v O G H (e.trans q), fun ρ O G H σ q => h.bk ρ O G H σ (e.trans q), fun ρ O G H σ q => h.ct ρ O G H σ (e.trans q)⟩
def RunS (K : PySem.W.Frag) (T : List Addr) (ts : TS) (ρ : Rho) (O : Own) (P : Po) : Prop := ∀ (F H : Hp) (Ξ : Own) (σ : L2.St), Wd K T F (O ++ Ξ) H → Env K F ρ σ → ∀ D : Ends, EndsOk K T F Ξ P D → ts D σ H

/-- a promise on data: from the arguments and the own objects to what may come -/
abbrev Prm := List Sl → Own → PV → Prop
def spOf (K : PySem.W.Frag) (T : List Addr) (S : Prm) : Sp := fun vs H Q _ => ∃ F O Ξ xs P, Wd K T F (O ++ Ξ) H ∧ Args K F xs vs ∧ S xs O P ∧ ∀ v s F' O' H', Ex F F' → Wd K T F' (O' ++ Ξ) H' → SlV K F' s v → P s O' → Q v H'

/-! ### expressions -/
theorem re_imp {te : TE} {ρ : Rho} {O : Own} {P P' : PV} (h : RunE K T te ρ O P) (k : ∀ s O', P s O' → P' s O') : RunE K T te ρ O P' := fun F H Ξ σ w e Q q => h F H Ξ σ w e Q fun v s F' O' H' a b c d => q v s F' O' H' a b c (k s O' d)
theorem re_var {i : Nat} {ρ : Rho} {O : Own} {P : PV} {s : Sl} (h : ρ[i]? = some s) (n : s ≠ .u) (p : P s O) : RunE K T (tVar i) ρ O P := fun F H Ξ σ w e Q q => by
  obtain ⟨v, h1, h2⟩ := e.get h n
  exact ⟨v, h1, q v s F O H (Ex.refl F) w h2 p⟩
theorem re_c {v : V} {ρ : Rho} {O : Own} {P : PV} {d : D} (h : ∀ F, Rp K F d v) (p : P (.d d) O) : RunE K T (tC v) ρ O P := fun F H Ξ σ w e Q q => q v (.d d) F O H (Ex.refl F) w (h F) p
theorem re_int {i : Int} {ρ : Rho} {O : Own} {P : PV} (p : P (.d (.int i)) O) : RunE K T (tC (.int i)) ρ O P := re_c (d := .int i) (fun _ => rfl) p
theorem re_str {x : Str} {ρ : Rho} {O : Own} {P : PV} (p : P (.d (.str x)) O) : RunE K T (tC (.str x)) ρ O P := re_c (d := .str x) (fun _ => rfl) p
theorem re_bl {b : Bool} {ρ : Rho} {O : Own} {P : PV} (p : P (.d (.bl b)) O) : RunE K T (tC (.bl b)) ρ O P := re_c (d := .bl b) (fun _ => rfl) p
theorem re_non {ρ : Rho} {O : Own} {P : PV} (p : P (.d .non) O) : RunE K T (tC .non) ρ O P := re_c (d := .non) (fun _ => rfl) p
theorem re_op {r : R2} {ta tb : TE} {ρ : Rho} {O : Own} {P : PV} (h : RunE K T ta ρ O fun x O1 => RunE K T tb ρ O1 fun y O2 => RunR K T r x y O2 P) : RunE K T (tOp r ta tb) ρ O P := fun F H Ξ σ w e Q q =>
  h F H Ξ σ w e _ fun x sx F1 O1 H1 e1 w1 rx h1 => h1 F1 H1 Ξ σ w1 (e.mono e1) _ fun y sy F2 O2 H2 e2 w2 ry h2 => h2 F2 H2 Ξ x y w2 (rx.mono e2) ry Q fun v s F3 O3 H3 e3 w3 r3 p3 => q v s F3 O3 H3 ((e1.trans e2).trans e3) w3 r3 p3
theorem re_un {r : V → Hp → VK → Prop} {ta : TE} {ρ : Rho} {O : Own} {P : PV} (h : RunE K T ta ρ O fun x O1 => RunU K T r x O1 P) : RunE K T (tUn r ta) ρ O P := fun F H Ξ σ w e Q q =>
  h F H Ξ σ w e _ fun x sx F1 O1 H1 e1 w1 rx h1 => h1 F1 H1 Ξ x w1 rx Q fun v s F3 O3 H3 e3 w3 r3 p3 => q v s F3 O3 H3 (e1.trans e3) w3 r3 p3
theorem re_if {t : TT} {ta tb : TE} {ρ : Rho} {O : Own} {P : PV} (h : RunT K T t ρ O fun b O1 => if b = true then RunE K T ta ρ O1 P else RunE K T tb ρ O1 P) : RunE K T (tIf t ta tb) ρ O P := fun F H Ξ σ w e Q q =>
  h F H Ξ σ w e _ fun b F1 O1 H1 e1 w1 h1 => by
    cases b with
    | true =>
      rw [if_pos rfl] at h1 ⊢
      exact h1 F1 H1 Ξ σ w1 (e.mono e1) Q fun v s F3 O3 H3 e3 w3 r3 p3 => q v s F3 O3 H3 (e1.trans e3) w3 r3 p3
    | false =>
      rw [if_neg Bool.false_ne_true] at h1 ⊢
      exact h1 F1 H1 Ξ σ w1 (e.mono e1) Q fun v s F3 O3 H3 e3 w3 r3 p3 => q v s F3 O3 H3 (e1.trans e3) w3 r3 p3
theorem re_cb {r : List V → Hp → VK → Prop} {ta : TA} {ρ : Rho} {O : Own} {P : PV} (h : RunA K T ta ρ O fun xs O1 => RunC K T r xs O1 P) : RunE K T (tCB r ta) ρ O P := fun F H Ξ σ w e Q q =>
  h F H Ξ σ w e _ fun vs xs F1 O1 H1 e1 w1 rx h1 => h1 F1 H1 Ξ vs w1 rx Q fun v s F3 O3 H3 e3 w3 r3 p3 => q v s F3 O3 H3 (e1.trans e3) w3 r3 p3
theorem re_call {S : Prm} {E : XK} {ta : TA} {ρ : Rho} {O : Own} {P : PV} (h : RunA K T ta ρ O fun xs O1 => S xs O1 P) : RunE K T (tCall (spOf K T S) [] E ta) ρ O P := fun F H Ξ σ w e Q q =>
  h F H Ξ σ w e _ fun vs xs F1 O1 H1 e1 w1 rx h1 => by
    show spOf K T S (vs ++ []) H1 Q E
    rw [List.append_nil]
    exact ⟨F1, O1, Ξ, xs, P, w1, rx, h1, fun v s F3 O3 H3 e3 w3 r3 p3 => q v s F3 O3 H3 (e1.trans e3) w3 r3 p3⟩
theorem ra_nil {ρ : Rho} {O : Own} {P : List Sl → Own → Prop} (p : P [] O) : RunA K T tNil ρ O P := fun F H Ξ σ w e Q q => q [] [] F O H (Ex.refl F) w rfl p
theorem ra_cons {ta : TE} {tr : TA} {ρ : Rho} {O : Own} {P : List Sl → Own → Prop} (h : RunE K T ta ρ O fun x O1 => RunA K T tr ρ O1 fun xs O2 => P (x :: xs) O2) : RunA K T (tCons ta tr) ρ O P := fun F H Ξ σ w e Q q =>
  h F H Ξ σ w e _ fun v s F1 O1 H1 e1 w1 r1 h1 => h1 F1 H1 Ξ σ w1 (e.mono e1) _ fun vs ss F2 O2 H2 e2 w2 r2 h2 => q (v :: vs) (s :: ss) F2 O2 H2 (e1.trans e2) w2 ⟨v, vs, rfl, r1.mono e2, r2⟩ h2
theorem re_tup {ta : TA} {ρ : Rho} {O : Own} {P : PV} (h : RunA K T ta ρ O fun xs O1 => ∃ ds, xs = ds.map Sl.d ∧ ds.length ≤ 1000 ∧ P (.d (.tup ds)) O1) : RunE K T (tTup ta) ρ O P := fun F H Ξ σ w e Q q =>
  h F H Ξ σ w e _ fun vs xs F1 O1 H1 e1 w1 rx ⟨ds, h1, h2, h3⟩ => by
    subst h1
    have rx := args_data rx
    refine ⟨by rw [rx.length]; exact Nat.le_of_lt (small1000 h2), fun p hp => ?_⟩
    have e2 : Ex F1 (upd F1 p (.tup vs)) := Ex.new (w1.ex.back hp)
    exact q _ _ _ O1 _ (e1.trans e2) (w1.new hp) (show SlV K _ (.d (.tup ds)) _ from ⟨p, vs, rfl, .inl (.inl upd_same), RpL.mono e2 _ _ rx⟩) h3
theorem re_lst {ta : TA} {ρ : Rho} {O : Own} {P : PV} (h : RunA K T ta ρ O fun xs O1 => ∃ ds, xs = ds.map Sl.d ∧ ds.length ≤ 1000 ∧ P (.d (.lst ds)) O1) : RunE K T (tLst ta) ρ O P := fun F H Ξ σ w e Q q =>
  h F H Ξ σ w e _ fun vs xs F1 O1 H1 e1 w1 rx ⟨ds, h1, h2, h3⟩ => by
    subst h1
    have rx := args_data rx
    refine ⟨by rw [rx.length]; exact Nat.le_of_lt (small1000 h2), fun p hp => ?_⟩
    have e2 : Ex F1 (upd F1 p (.lst vs)) := Ex.new (w1.ex.back hp)
    exact q _ _ _ O1 _ (e1.trans e2) (w1.new hp) (show SlV K _ (.d (.lst ds)) _ from ⟨p, vs, rfl, upd_same, RpL.mono e2 _ _ rx⟩) h3
/-- a list display that will be written -/
theorem re_lstO {ta : TA} {ρ : Rho} {O : Own} {P : PV} (h : RunA K T ta ρ O fun xs O1 => ∃ ds, xs = ds.map Sl.d ∧ ds.length ≤ 1000 ∧ ∀ p, P (.o p) ((p, .ls ds) :: O1)) : RunE K T (tLst ta) ρ O P := fun F H Ξ σ w e Q q =>
  h F H Ξ σ w e _ fun vs xs F1 O1 H1 e1 w1 rx ⟨ds, h1, h2, h3⟩ => by
    subst h1
    have rx := args_data rx
    refine ⟨by rw [rx.length]; exact Nat.le_of_lt (small1000 h2), fun p hp => ?_⟩
    exact q _ (.o p) F1 _ _ e1 (w1.newO (c := .ls ds) hp rfl (show holds K F1 _ (p, C.ls ds) from ⟨vs, upd_same, rx⟩)) rfl (h3 p)
/-! ### tests -/
theorem rt_imp {te : TT} {ρ : Rho} {O : Own} {P P' : Bool → Own → Prop} (h : RunT K T te ρ O P) (k : ∀ s O', P s O' → P' s O') : RunT K T te ρ O P' := fun F H Ξ σ w e Q q => h F H Ξ σ w e Q fun v F' O' H' a b d => q v F' O' H' a b (k v O' d)
theorem slv_bl {F : Hp} {s : Sl} {v : V} {b : Bool} (h : s = .d (.bl b)) (r : SlV K F s v) : v = .bl b := by subst h; exact r
theorem rt_test {te : TE} {ρ : Rho} {O : Own} {P : Bool → Own → Prop} (h : RunE K T te ρ O fun x O1 => ∃ b, x = .d (.bl b) ∧ P b O1) : RunT K T (tTest te) ρ O P := fun F H Ξ σ w e Q q =>
  h F H Ξ σ w e _ fun v s F1 O1 H1 e1 w1 r1 ⟨b, h1, h2⟩ => ⟨b, slv_bl h1 r1, q b F1 O1 H1 e1 w1 h2⟩
theorem rt_B {te : TE} {ρ : Rho} {O : Own} {P : Bool → Own → Prop} (h : RunE K T te ρ O fun x O1 => ∃ b, x = .d (.bl b) ∧ P b O1) : RunT K T (tB te) ρ O P := fun F H Ξ σ w e Q q =>
  h F H Ξ σ w e _ fun v s F1 O1 H1 e1 w1 r1 ⟨b, h1, h2⟩ => ⟨b, slv_bl h1 r1, q b F1 O1 H1 e1 w1 h2⟩
theorem rt_not {t : TT} {ρ : Rho} {O : Own} {P : Bool → Own → Prop} (h : RunT K T t ρ O fun b O1 => P (!b) O1) : RunT K T (tNot t) ρ O P := fun F H Ξ σ w e Q q => h F H Ξ σ w e _ fun b F1 O1 H1 e1 w1 h1 => q (!b) F1 O1 H1 e1 w1 h1
theorem rt_and {t u : TT} {ρ : Rho} {O : Own} {P : Bool → Own → Prop} (h : RunT K T t ρ O fun b O1 => if b = true then RunT K T u ρ O1 P else P false O1) : RunT K T (tAnd t u) ρ O P := fun F H Ξ σ w e Q q => h F H Ξ σ w e _ fun b F1 O1 H1 e1 w1 h1 => by
  cases b with
  | true =>
    rw [if_pos rfl] at h1
    show u σ H1 Q
    exact h1 F1 H1 Ξ σ w1 (e.mono e1) Q fun v F3 O3 H3 e3 w3 p3 => q v F3 O3 H3 (e1.trans e3) w3 p3
  | false =>
    rw [if_neg Bool.false_ne_true] at h1
    exact q false F1 O1 H1 e1 w1 h1
theorem rt_or {t u : TT} {ρ : Rho} {O : Own} {P : Bool → Own → Prop} (h : RunT K T t ρ O fun b O1 => if b = true then P true O1 else RunT K T u ρ O1 P) : RunT K T (tOr t u) ρ O P := fun F H Ξ σ w e Q q => h F H Ξ σ w e _ fun b F1 O1 H1 e1 w1 h1 => by
  cases b with
  | true =>
    rw [if_pos rfl] at h1
    exact q true F1 O1 H1 e1 w1 h1
  | false =>
    rw [if_neg Bool.false_ne_true] at h1
    show u σ H1 Q
    exact h1 F1 H1 Ξ σ w1 (e.mono e1) Q fun v F3 O3 H3 e3 w3 p3 => q v F3 O3 H3 (e1.trans e3) w3 p3
/-! ### statements -/
theorem rs_next {ρ : Rho} {O : Own} {P : Po} (h : P.nx ρ O) : RunS K T tNext ρ O P := fun F H Ξ σ w e D d => d.nx ρ O F H σ (Ex.refl F) w e h
theorem rs_seq {t u : TS} {ρ : Rho} {O : Own} {P : Po} (h : RunS K T t ρ O { P with nx := fun ρ' O' => RunS K T u ρ' O' P }) : RunS K T (tSeq t u) ρ O P := fun F H Ξ σ w e D d =>
  h F H Ξ σ w e _ ⟨fun ρ' O' F' H' σ' e1 w1 v1 q => q F' H' Ξ σ' w1 v1 D (d.mono e1), d.rt, d.bk, d.ct⟩
theorem rs_ret {te : TE} {ρ : Rho} {O : Own} {P : Po} (h : RunE K T te ρ O P.rt) : RunS K T (tRet te) ρ O P := fun F H Ξ σ w e D d => h F H Ξ σ w e D.rt fun v s F' O' H' e1 w1 r1 p1 => d.rt s v O' F' H' e1 w1 r1 p1
theorem rs_retN {ρ : Rho} {O : Own} {P : Po} (h : P.rt (.d .non) O) : RunS K T tRetN ρ O P := fun F H Ξ σ w e D d => d.rt (.d .non) .non O F H (Ex.refl F) w rfl h
theorem rs_if {c : TT} {t u : TS} {ρ : Rho} {O : Own} {P : Po} (h : RunT K T c ρ O fun b O1 => if b = true then RunS K T t ρ O1 P else RunS K T u ρ O1 P) : RunS K T (tIfS c t u) ρ O P := fun F H Ξ σ w e D d =>
  h F H Ξ σ w e _ fun b F1 O1 H1 e1 w1 h1 => by
    cases b with
    | true => rw [if_pos rfl] at h1 ⊢; exact h1 F1 H1 Ξ σ w1 (e.mono e1) D (d.mono e1)
    | false => rw [if_neg Bool.false_ne_true] at h1 ⊢; exact h1 F1 H1 Ξ σ w1 (e.mono e1) D (d.mono e1)
theorem rs_drop {te : TE} {ρ : Rho} {O : Own} {P : Po} (h : RunE K T te ρ O fun _ O1 => P.nx ρ O1) : RunS K T (tDrop te) ρ O P := fun F H Ξ σ w e D d => h F H Ξ σ w e _ fun v s F' O' H' e1 w1 r1 p1 => d.nx ρ O' F' H' σ e1 w1 (e.mono e1) p1
theorem rs_break {ρ : Rho} {O : Own} {P : Po} (h : P.bk ρ O) : RunS K T tBreak ρ O P := fun F H Ξ σ w e D d => d.bk ρ O F H σ (Ex.refl F) w e h
theorem rs_cont {ρ : Rho} {O : Own} {P : Po} (h : P.ct ρ O) : RunS K T tCont ρ O P := fun F H Ξ σ w e D d => d.ct ρ O F H σ (Ex.refl F) w e h
/-- x = e -/
theorem rs_asg {te : TE} {i : Nat} {ρ : Rho} {O : Own} {P : Po} (h : RunE K T te ρ O fun s O1 => P.nx (ρ.set i s) O1) : RunS K T (tAsg te (gName i)) ρ O P := fun F H Ξ σ w e D d =>
  h F H Ξ σ w e _ fun v s F' O' H' e1 w1 r1 p1 => d.nx (ρ.set i s) O' F' H' (σ.set i (some v)) e1 w1 ((e.mono e1).set i r1.o) p1
/-- an own list is no longer written: its slot holds data from here on -/
theorem rs_freeze {ts : TS} {i : Nat} {p : Addr} {l : List D} {ρ : Rho} {O : Own} {P : Po} (hi : ρ[i]? = some (.o p)) (h : RunS K T ts (ρ.set i (.d (.lst l))) O P) : RunS K T ts ρ ((p, .ls l) :: O) P := fun F H Ξ σ w e D d => by
  obtain ⟨vs, w1, e1, r1⟩ := w.freeze
  obtain ⟨v, h1, h2⟩ := e.get hi (by intro z; cases z)
  have h2 : v = .ref p := h2
  subst h2
  have e2 := (e.mono e1).set i (s := .d (.lst l)) (x := some (.ref p)) ⟨_, rfl, r1⟩
  have es : σ.set i (some (.ref p)) = σ := by
    obtain ⟨hl, hg⟩ := List.getElem?_eq_some_iff.mp h1
    rw [← hg]
    exact List.set_getElem_self hl
  rw [es] at e2
  exact h _ H Ξ σ w1 e2 D (d.mono e1)
theorem re_freeze {te : TE} {i : Nat} {p : Addr} {l : List D} {ρ : Rho} {O : Own} {P : PV} (hi : ρ[i]? = some (.o p)) (h : RunE K T te (ρ.set i (.d (.lst l))) O P) : RunE K T te ρ ((p, .ls l) :: O) P := fun F H Ξ σ w e Q q => by
  obtain ⟨vs, w1, e1, r1⟩ := w.freeze
  obtain ⟨v, h1, h2⟩ := e.get hi (by intro z; cases z)
  have h2 : v = .ref p := h2
  subst h2
  have e2 := (e.mono e1).set i (s := .d (.lst l)) (x := some (.ref p)) ⟨_, rfl, r1⟩
  have es : σ.set i (some (.ref p)) = σ := by
    obtain ⟨hl, hg⟩ := List.getElem?_eq_some_iff.mp h1
    rw [← hg]
    exact List.set_getElem_self hl
  rw [es] at e2
  exact h _ H Ξ σ w1 e2 Q fun v s F' O' H' a b c dd => q v s F' O' H' (e1.trans a) b c dd
/-- the order of the own objects is free -/
theorem rs_perm {ts : TS} {ρ : Rho} {O O' : Own} {P : Po} (p : O.Perm O') (h : RunS K T ts ρ O' P) : RunS K T ts ρ O P := fun F H Ξ σ w e D d => h F H Ξ σ (w.perm (p.append_right Ξ)) e D d
theorem re_perm {te : TE} {ρ : Rho} {O O' : Own} {P : PV} (p : O.Perm O') (h : RunE K T te ρ O' P) : RunE K T te ρ O P := fun F H Ξ σ w e Q q => h F H Ξ σ (w.perm (p.append_right Ξ)) e Q q
end Al
end
section
set_option Elab.async false
set_option linter.all false
set_option maxRecDepth 100000
set_option maxHeartbeats 2000000
/-! Operators on data: one rule a sign. -/
namespace Al
open PySem PySem.Spec PyProof.Rows L2
variable {K : PySem.W.Frag} {T : List Addr}

/-! ### the result of an operation that leaves the heap -/
theorem rr_I {Cn : Int → Int → Prop} {g : Int → Int → V} {i j : Int} {O : Own} {P : PV} {d : D} (hc : Cn i j) (hd : ∀ F, Rp K F d (g i j)) (p : P (.d d) O) : RunR K T (rI Cn g) (.d (.int i)) (.d (.int j)) O P := fun F H Ξ vx vy w rx ry Q q =>
  ⟨i, j, rx, ry, hc, q _ (.d d) F O H (Ex.refl F) w (hd F) p⟩
theorem rr_I0 {g : Int → Int → V} {i j : Int} {O : Own} {P : PV} {d : D} (hd : ∀ F, Rp K F d (g i j)) (p : P (.d d) O) : RunR K T (rI0 g) (.d (.int i)) (.d (.int j)) O P := fun F H Ξ vx vy w rx ry Q q =>
  ⟨i, j, rx, ry, q _ (.d d) F O H (Ex.refl F) w (hd F) p⟩
theorem ru_U {g : Int → V} {i : Int} {O : Own} {P : PV} {d : D} (hd : ∀ F, Rp K F d (g i)) (p : P (.d d) O) : RunU K T (rU g) (.d (.int i)) O P := fun F H Ξ vx w rx Q q => ⟨i, rx, q _ (.d d) F O H (Ex.refl F) w (hd F) p⟩
theorem rr_or1 {r r' : R2} {x y : Sl} {O : Own} {P : PV} (h : RunR K T r x y O P) : RunR K T (fun x y H Q => r x y H Q ∨ r' x y H Q) x y O P := fun F H Ξ vx vy w rx ry Q q => .inl (h F H Ξ vx vy w rx ry Q q)
theorem rr_or2 {r r' : R2} {x y : Sl} {O : Own} {P : PV} (h : RunR K T r' x y O P) : RunR K T (fun x y H Q => r x y H Q ∨ r' x y H Q) x y O P := fun F H Ξ vx vy w rx ry Q q => .inr (h F H Ξ vx vy w rx ry Q q)

/-! ### + -/
def rStr2 (C : Str → Str → Prop) (g : Str → Str → V) : R2 := fun x y H Q => ∃ i j, x = .str i ∧ y = .str j ∧ C i j ∧ Q (g i j) H
def rAdd (K : PySem.W.Frag) : R2 := fun x y H Q => rI0 (fun i j => .int (i + j)) x y H Q ∨ ((∃ i j, x = .str i ∧ y = .str j ∧ i.length + j.length ≤ sizeLine ∧ Q (.str (i ++ j)) H) ∨ (rCat x y H Q ∨ rCatA K x y H Q))
theorem op_addA {X : Cx} : OpR X (binaryOp .Add) (rAdd X.K) := op_add.or (op_add_str.or (op_cat.or op_catA))
theorem rr_addI {i j : Int} {O : Own} {P : PV} (p : P (.d (.int (i + j))) O) : RunR K T (rAdd K) (.d (.int i)) (.d (.int j)) O P := fun F H Ξ vx vy w rx ry Q q => .inl ⟨i, j, rx, ry, q (.int (i + j)) (.d (.int (i + j))) F O H (Ex.refl F) w rfl p⟩
theorem rr_addS {i j : Str} {O : Own} {P : PV} (h : i.length + j.length ≤ sizeLine) (p : P (.d (.str (i ++ j))) O) : RunR K T (rAdd K) (.d (.str i)) (.d (.str j)) O P := fun F H Ξ vx vy w rx ry Q q =>
  .inr (.inl ⟨i, j, rx, ry, h, q (.str (i ++ j)) (.d (.str (i ++ j))) F O H (Ex.refl F) w rfl p⟩)
theorem rr_addL {l m : List D} {O : Own} {P : PV} (h : l.length + m.length ≤ sizeLine) (p : P (.d (.lst (l ++ m))) O) : RunR K T (rAdd K) (.d (.lst l)) (.d (.lst m)) O P := fun F H Ξ vx vy w rx ry Q q => by
  obtain ⟨a, xs, rfl, ha, hx⟩ := rx
  obtain ⟨b, ys, rfl, hb, hy⟩ := ry
  refine .inr (.inr (.inl ⟨a, b, xs, ys, rfl, rfl, w.ex _ _ ha, w.ex _ _ hb, by rw [hx.length, hy.length]; exact h, fun c hc => ?_⟩))
  have e : Ex F (upd F c (.lst (xs ++ ys))) := Ex.new (w.ex.back hc)
  exact q _ (.d (.lst (l ++ m))) _ O _ e (w.new hc) ⟨c, _, rfl, upd_same, (RpL.mono e _ _ hx).append (RpL.mono e _ _ hy)⟩ p
theorem rr_addT {l m : List D} {O : Own} {P : PV} (h : l.length + m.length ≤ sizeLine) (p : P (.d (.tup (l ++ m))) O) : RunR K T (rAdd K) (.d (.tup l)) (.d (.tup m)) O P := fun F H Ξ vx vy w rx ry Q q => by
  obtain ⟨a, xs, rfl, ha, hx⟩ := rx
  obtain ⟨b, ys, rfl, hb, hy⟩ := ry
  refine .inr (.inr (.inr ⟨a, b, xs, ys, rfl, rfl, w.ex.seqT ha, w.ex.seqT hb, by rw [hx.length, hy.length]; exact h, fun z => ?_, fun _ z => ?_, fun _ _ c hc => ?_⟩))
  · subst z
    have : l = [] := List.eq_nil_of_length_eq_zero (by rw [← hx.length]; rfl)
    subst this
    exact q (.ref b) (.d (.tup ([] ++ m))) F O H (Ex.refl F) w ⟨b, ys, rfl, hb, hy⟩ p
  · subst z
    have : m = [] := List.eq_nil_of_length_eq_zero (by rw [← hy.length]; rfl)
    subst this
    exact q (.ref a) (.d (.tup (l ++ []))) F O H (Ex.refl F) w (by rw [List.append_nil]; exact ⟨a, xs, rfl, ha, hx⟩) p
  · have e : Ex F (upd F c (.tup (xs ++ ys))) := Ex.new (w.ex.back hc)
    exact q _ (.d (.tup (l ++ m))) _ O _ e (w.new hc) ⟨c, _, rfl, .inl (.inl upd_same), (RpL.mono e _ _ hx).append (RpL.mono e _ _ hy)⟩ p

/-! ### == and != -/
mutual
def eqD : D → D → Bool
  | .non, .non => true
  | .bl a, .bl b => a == b
  | .bl a, .int j => (if a then 1 else 0) == j
  | .int i, .bl b => i == (if b then 1 else 0)
  | .int i, .int j => i == j
  | .str x, .str y => x == y
  | .lst l, .lst m => eqL l m
  | .tup l, .tup m => eqL l m
  | _, _ => false
def eqL : List D → List D → Bool
  | [], [] => true
  | x :: l, y :: m => eqD x y && eqL l m
  | _, _ => false
end
mutual
/-- data of the plain kinds, at most n deep -/
def plain : Nat → D → Bool
  | _, .non => true
  | _, .bl _ => true
  | _, .int _ => true
  | _, .str x => PyData.strOk x
  | n + 1, .lst l => plainL n l
  | n + 1, .tup l => plainL n l
  | _, _ => false
def plainL : Nat → List D → Bool
  | _, [] => true
  | n, d :: l => plain n d && plainL n l
end
mutual
def pd : D → PyData
  | .non => .none
  | .bl b => .bool b
  | .int i => .int i
  | .str x => .str x
  | .lst l => .list (pdL l)
  | .tup l => .tuple (pdL l)
  | _ => .none
def pdL : List D → List PyData
  | [] => []
  | d :: l => pd d :: pdL l
end
mutual
theorem eqv_pd : ∀ (n m : Nat) (x y : D), plain n x = true → plain m y = true → PyData.eqv (pd x) (pd y) = eqD x y
  | n, m, .non, y, hx, hy => by cases y <;> simp_all [pd, PyData.eqv, eqD, plain] <;> (cases m <;> simp_all [plain])
  | n, m, .bl a, y, hx, hy => by cases y <;> simp_all [pd, PyData.eqv, eqD, plain] <;> (cases m <;> simp_all [plain])
  | n, m, .int a, y, hx, hy => by cases y <;> simp_all [pd, PyData.eqv, eqD, plain] <;> (cases m <;> simp_all [plain])
  | n, m, .str a, y, hx, hy => by cases y <;> simp_all [pd, PyData.eqv, eqD, plain] <;> (cases m <;> simp_all [plain])
  | 0, m, .lst l, y, hx, hy => by simp [plain] at hx
  | 0, m, .tup l, y, hx, hy => by simp [plain] at hx
  | n + 1, m, .lst l, y, hx, hy => by
    cases y with
    | lst k =>
      cases m with
      | zero => simp [plain] at hy
      | succ m =>
        simp only [plain] at hx hy
        simp only [pd, PyData.eqv, eqD]
        exact eqv_pdL n m l k hx hy
    | _ => simp_all [pd, PyData.eqv, eqD, plain] <;> (cases m <;> simp_all [plain])
  | n + 1, m, .tup l, y, hx, hy => by
    cases y with
    | tup k =>
      cases m with
      | zero => simp [plain] at hy
      | succ m =>
        simp only [plain] at hx hy
        simp only [pd, PyData.eqv, eqD]
        exact eqv_pdL n m l k hx hy
    | _ => simp_all [pd, PyData.eqv, eqD, plain] <;> (cases m <;> simp_all [plain])
  | n, m, .dic, y, hx, hy => by cases n <;> simp [plain] at hx
  | n, m, .raw v, y, hx, hy => by cases n <;> simp [plain] at hx
  | n, m, .scr v, y, hx, hy => by cases n <;> simp [plain] at hx
theorem eqv_pdL : ∀ (n m : Nat) (l k : List D), plainL n l = true → plainL m k = true → PyData.eqvAll (pdL l) (pdL k) = eqL l k
  | n, m, [], [], _, _ => by simp [pdL, PyData.eqvAll, eqL]
  | n, m, [], y :: k, _, _ => by simp [pdL, PyData.eqvAll, eqL]
  | n, m, x :: l, [], _, _ => by simp [pdL, PyData.eqvAll, eqL]
  | n, m, x :: l, y :: k, hx, hy => by
    simp only [plainL, Bool.and_eq_true] at hx hy
    simp only [pdL, PyData.eqvAll, eqL]
    rw [eqv_pd n m x y hx.1 hy.1, eqv_pdL n m l k hx.2 hy.2]
end
mutual
theorem canLay_pd : ∀ (n : Nat) (x : D), plain n x = true → (pd x).canLay0 = true ∧ (pd x).depth ≤ n
  | n, .non, _ => by simp [pd, PyData.canLay0, PyData.depth]
  | n, .bl _, _ => by simp [pd, PyData.canLay0, PyData.depth]
  | n, .int _, _ => by simp [pd, PyData.canLay0, PyData.depth]
  | n, .str x, h => by
    refine ⟨?_, by simp [pd, PyData.depth]⟩
    cases n <;> simpa [pd, PyData.canLay0, plain] using h
  | 0, .lst l, h => by simp [plain] at h
  | 0, .tup l, h => by simp [plain] at h
  | n + 1, .lst l, h => by
    simp only [plain] at h
    obtain ⟨h1, h2⟩ := canLay_pdL n l h
    exact ⟨by simpa [pd, PyData.canLay0] using h1, by simp only [pd, PyData.depth]; omega⟩
  | n + 1, .tup l, h => by
    simp only [plain] at h
    obtain ⟨h1, h2⟩ := canLay_pdL n l h
    exact ⟨by simpa [pd, PyData.canLay0] using h1, by simp only [pd, PyData.depth]; omega⟩
  | n, .dic, h => by cases n <;> simp [plain] at h
  | n, .raw _, h => by cases n <;> simp [plain] at h
  | n, .scr _, h => by cases n <;> simp [plain] at h
theorem canLay_pdL : ∀ (n : Nat) (l : List D), plainL n l = true → PyData.canLayAll0 (pdL l) = true ∧ PyData.depthAll (pdL l) ≤ n
  | n, [], _ => by simp [pdL, PyData.canLayAll0, PyData.depthAll]
  | n, d :: l, h => by
    simp only [plainL, Bool.and_eq_true] at h
    obtain ⟨h1, h2⟩ := canLay_pd n d h.1
    obtain ⟨h3, h4⟩ := canLay_pdL n l h.2
    exact ⟨by simp [pdL, PyData.canLayAll0, h1, h3], by simp only [pdL, PyData.depthAll]; omega⟩
end
theorem shaped_pd {n : Nat} {x : D} (h : plain n x = true) (hn : n ≤ 64) : SeqAt.shaped (pd x) = true := by
  obtain ⟨h1, h2⟩ := canLay_pd n x h
  unfold SeqAt.shaped
  rw [h1, Bool.true_and]
  exact decide_eq_true (by omega)
mutual
theorem dp_of {F H : Hp} (e : Ex F H) : ∀ (n : Nat) (x : D) (v : V), plain n x = true → Rp K F x v → Dp K H v (pd x)
  | n, .non, v, _, r => by rw [show v = .non from r]; exact .non
  | n, .bl b, v, _, r => by rw [show v = .bl b from r]; exact .bl b
  | n, .int i, v, _, r => by rw [show v = .int i from r]; exact .int i
  | n, .str x, v, _, r => by rw [show v = .str x from r]; exact .str x
  | 0, .lst l, v, h, _ => by simp [plain] at h
  | 0, .tup l, v, h, _ => by simp [plain] at h
  | n + 1, .lst l, v, h, r => by
    obtain ⟨a, vs, rfl, h1, h2⟩ := r
    simp only [plain] at h
    exact .lst (.of (e _ _ h1)) (dp_ofL e n l vs h h2)
  | n + 1, .tup l, v, h, r => by
    obtain ⟨a, vs, rfl, h1, h2⟩ := r
    simp only [plain] at h
    exact .tup (e.seqT h1) (dp_ofL e n l vs h h2)
  | n, .dic, v, h, _ => by cases n <;> simp [plain] at h
  | n, .raw _, v, h, _ => by cases n <;> simp [plain] at h
  | n, .scr _, v, h, _ => by cases n <;> simp [plain] at h
theorem dp_ofL {F H : Hp} (e : Ex F H) : ∀ (n : Nat) (l : List D) (vs : List V), plainL n l = true → RpL K F l vs → DpAll K H vs (pdL l)
  | n, [], vs, _, r => by rw [show vs = [] from r]; exact .nil
  | n, d :: l, vs, h, r => by
    obtain ⟨v, us, rfl, r1, r2⟩ := r
    simp only [plainL, Bool.and_eq_true] at h
    exact .cons (dp_of e n d v h.1 r1) (dp_ofL e n l us h.2 r2)
end
/-- beside an empty tuple or list -/
def rNil (K : PySem.W.Frag) (f : Bool → Bool) : R2 := fun x y H Q => ∃ a b xs, x = .ref a ∧ y = .ref b ∧ ((SqT K H a xs ∧ SqT K H b []) ∨ (SqL K H a xs ∧ SqL K H b [])) ∧ Q (.bl (f xs.isEmpty)) H
def rEqA (K : PySem.W.Frag) : R2 := fun x y H Q => rEq x y H Q ∨ (rNil K id x y H Q ∨ rEqD K x y H Q)
def rNeA (K : PySem.W.Frag) : R2 := fun x y H Q => rNe x y H Q ∨ (rNil K (!·) x y H Q ∨ rNeD K x y H Q)
theorem op_eqNil {X : Cx} (hu : X.A.units + 64 < cLine) : OpR X (compareOp .Eq) (rNil X.K id) := by
  intro pins s σ H x y v u Q I rx ry h
  obtain ⟨a, b, xs, rfl, rfl, h, q⟩ := h
  cases rx
  cases ry
  rcases h with ⟨h1, h2⟩ | ⟨h1, h2⟩
  · obtain ⟨i1, r1, t1, z1⟩ := I.tuple h1
    obtain ⟨i2, r2, t2, z2⟩ := I.tuple h2
    have e2 : i2 = [] := List.eq_nil_of_length_eq_zero (by rw [← r2.length]; rfl)
    subst e2
    refine SeqAt.eq_tupleAt (e := fun _ => true) t1 t2 (by omega) (fun j h1 h2 => by simp at h2) ?_
    refine ⟨.bl xs.isEmpty, H, I, ?_, q⟩
    have e : xs.isEmpty = i1.isEmpty := by cases xs <;> cases i1 <;> first | rfl | (have := r1.length; simp at this)
    rw [e]
    show Value.bool _ = Value.bool _
    cases i1 <;> simp
  · obtain ⟨i1, r1, t1, z1⟩ := I.list h1
    obtain ⟨i2, r2, t2, z2⟩ := I.list h2
    have e2 : i2 = [] := List.eq_nil_of_length_eq_zero (by rw [← r2.length]; rfl)
    subst e2
    cases xs with
    | nil =>
      have e1 : i1 = [] := List.eq_nil_of_length_eq_zero (by rw [← r1.length]; rfl)
      subst e1
      exact SeqAt.eq_listAt (e := fun _ => true) t1.isList t2.isList rfl (by omega) (fun j h1 h2 => by simp at h2) ⟨.bl true, H, I, rfl, q⟩
    | cons x xs =>
      cases i1 with
      | nil => have := r1.length; simp at this
      | cons i1 is => exact SeqAt.eq_list_lengthsAt t1.isList t2.isList (by simp) (by omega) ⟨.bl false, H, I, rfl, q⟩
theorem op_eqA {X : Cx} (hu : X.A.units + 64 < cLine) : OpR X (compareOp .Eq) (rEqA X.K) := op_eq.or ((op_eqNil hu).or (op_eqD hu))
end Al
end
section
set_option Elab.async false
set_option linter.all false
set_option maxRecDepth 100000
set_option maxHeartbeats 2000000
/-! t[::-1] of a tuple; != ; in; items; slices; len. -/
namespace Al
open PySem PySem.Spec PyProof.Rows L2
section
variable {prog : Program} {w : World} {A : Around} {E : Value → Shared → Prop} {s : Shared}
theorem adjust_back (n : Nat) : Builtin.Slice.sliceAdjust none none (-1) (n : Int) = ((n : Int) - 1, -1) := by
  unfold Builtin.Slice.sliceAdjust
  simp
theorem places_back (n : Nat) : Builtin.Slice.slicePlaces ((n : Int) - 1) (-1) (-1) = n := by
  unfold Builtin.Slice.slicePlaces
  simp
  omega
theorem applied_back {sl : Addr} {n : Nat} {t : Tok} {Q : Int × Int × Nat → Shared → Prop} {os : Obj} (hos : s.heap.get? sl = some os) (hds : os.data = .fields #[.none, .none, .int (-1) t]) (h : Q ((n : Int) - 1, -1, n) s) :
    wpAny (model prog w) A (Builtin.Slice.sliceApplied (.ref sl) (pure (n : Int))) Q E s := by
  unfold Builtin.Slice.sliceApplied Builtin.Slice.sliceFields
  refine wpAny_bind (wpAny_bind (wpAny_field hos hds (x := .none) rfl (wpAny_bind (wpAny_field hos hds (x := .none) rfl (wpAny_bind (wpAny_field hos hds (x := .int (-1) t) rfl (wpAny_pure ?_)))))))
  refine wpAny_bind (slicePart_int ?_)
  show wpAny _ _ (if ((-1 : Int) == 0) = true then _ else _) _ _ s
  rw [if_neg (by decide)]
  refine wpAny_bind (slicePart_none (wpAny_bind (slicePart_none (wpAny_bind (wpAny_pure ?_)))))
  show wpAny _ _ (match Builtin.Slice.sliceAdjust none none (-1) (n : Int) with | (lo, hi) => pure (lo, (-1 : Int), Builtin.Slice.slicePlaces lo hi (-1))) _ _ s
  rw [adjust_back n]
  show wpAny _ _ (pure ((n : Int) - 1, (-1 : Int), Builtin.Slice.slicePlaces ((n : Int) - 1) (-1) (-1))) _ _ s
  rw [places_back]
  exact wpAny_pure h
theorem fm_congr {α β : Type} (f g : α → Option β) : (l : List α) → (∀ x ∈ l, f x = g x) → l.filterMap f = l.filterMap g
  | [], _ => rfl
  | x :: r, h => by
    rw [List.filterMap_cons, List.filterMap_cons, h x (List.mem_cons_self), fm_congr f g r fun y hy => h y (List.mem_cons_of_mem _ hy)]
theorem pick_back (xs : Array Value) : ((List.range xs.size).filterMap fun (m : Nat) => xs[(((xs.size : Nat) : Int) - 1 + (m : Int) * (-1)).toNat]?).toArray = xs.toList.reverse.toArray := by
  congr 1
  have e : (List.range xs.size).filterMap (fun (m : Nat) => xs[(((xs.size : Nat) : Int) - 1 + (m : Int) * (-1)).toNat]?) = ((List.range xs.size).map fun k => xs.size - 1 - k).filterMap (xs[·]?) := by
    rw [List.filterMap_map]
    refine fm_congr _ _ _ fun m hm => ?_
    have hm := List.mem_range.mp hm
    show xs[_]? = xs[xs.size - 1 - m]?
    congr 1
    omega
  rw [e, PySem.W.krv_range, List.filterMap_reverse, PySem.W.krv_all]
theorem getItem_tuple_back {t sl : Addr} {items : Array Value} {tk : Tok} {Q : Value → Shared → Prop} {os : Obj} (ht : IsTup s.heap t items) (hos : s.heap.get? sl = some os) (hcs : os.cls = .type "slice") (hds : os.data = .fields #[.none, .none, .int (-1) tk])
    (h : Q (.ref s.heap.objs.size) { s with heap := s.heap.push { cls := .type "tuple", data := .seq items.toList.reverse.toArray } }) (hsz : items.size ≤ sizeLine) : wpAny (model prog w) A (getItem (.ref t) (.ref sl)) Q E s := by
  have hTs : s.TypeIs (.ref sl) "slice" := ⟨os, hos, hcs⟩
  unfold getItem
  try with_reducible refine wpAny_holding ?_
  first | refine wpAny_bind (wpAny_pure ?_) | skip
  refine wpAny_bind (wpAny_sequenceKey ht.typeIs (by decide) ?_)
  refine wpAny_bind (wpAny_callSpecial?_slot (name := Str.ofString "__getitem__") ht.typeIs PyProof.Rows.slot_tuple_getitem
    (wpAny_call_entry PyProof.Rows.slot_tuple_getitem ht.typeIs entry_tuple_getitem ?_ (args_tuple_getitem _ _)))
  show wpAny _ _ (Builtin.Tuple.tupleItemsOf (.ref t) >>= _) _ _ s
  refine wpAny_bind (tupleItemsOf_ ht ?_)
  refine wpAny_bind (wpAny_typeOf hTs ?_)
  rw [if_pos (by decide)]
  refine wpAny_bind (applied_back (n := items.size) hos hds ?_)
  have hno : ¬ ((((items.size : Nat) : Int) - 1 == 0 && (-1 : Int) == 1 && items.size == items.size) = true) := by
    intro q
    rw [Bool.and_eq_true, Bool.and_eq_true] at q
    exact absurd q.1.2 (by decide)
  show wpAny _ _ (if (((items.size : Nat) : Int) - 1 == 0 && (-1 : Int) == 1 && items.size == items.size) = true then _ else _) _ _ s
  rw [if_neg hno, pick_back]
  have htake : sizeOk (.seq items.toList.reverse.toArray) := by
    show items.toList.reverse.toArray.size ≤ sizeLine
    rw [List.size_toArray, List.length_reverse, Array.length_toList]
    exact hsz
  first
    | exact wpAny_bind (m := Builtin.Tuple.tupleExact _) (wpAny_newObj_type (wpAny_pure ⟨_, rfl, wpAny_pure h⟩) htake)
    | exact wpAny_bind (m := Builtin.Tuple.tupleExact _) (wpAny_newObj_type (wpAny_bind (wpAny_pure (wpAny_pure ⟨_, rfl, wpAny_pure h⟩))) htake)
    | exact wpAny_bind (wpAny_bind (m := Builtin.Tuple.tupleExact _) (wpAny_newObj_type (wpAny_pure (wpAny_pure ⟨_, rfl, wpAny_pure h⟩)) htake))
    | exact wpAny_bind (wpAny_bind (m := Builtin.Tuple.tupleExact _) (wpAny_newObj_type (wpAny_pure ⟨_, rfl, wpAny_pure h⟩) htake))
end
section
variable {X : Cx}
def tRevT (K : PySem.W.Frag) (te : TE) : TE := fun σ H Q => te σ H fun x H1 => ∃ a xs, x = .ref a ∧ SqT K H1 a xs ∧ ∀ p, H1 p = none → Q (.ref p) (upd H1 p (.tup xs.reverse))
/-- t[::-1], t a tuple -/
theorem pe_revT {e : Expr} {te : TE} {k : Nat} {p1 p2 p3 pos : Pos} (he : PE X e te) : PE X (.Subscript e (.Slice none none (some (.UnaryOp .USub (.Constant (.int 1) k p1) p2)) p3) pos) (tRevT X.K te) := by
  refine ⟨fun pins s σ H Q I h => ?_⟩
  refine Subscript_ (thn (he.run pins s σ H _ I h) fun v s1 ⟨x, H1, I1, r1, q1⟩ => ?_)
  obtain ⟨a, xs, ex, hx, q⟩ := q1
  subst ex
  cases r1
  have hst : PO X (some (.UnaryOp .USub (.Constant (.int 1) k p1) p2)) (tPart (tUn (rU fun i => .int (-i)) (tC (.int 1)))) := po_some (pe_un un_neg pe_int)
  refine wpAny_Slice (thn (po_none.run pins s1 σ H1 (fun o H2 => o = none ∧ H2 = H1) I1 ⟨rfl, rfl⟩) fun vl s2 ⟨l, H2, I2, pl, el, e2⟩ => ?_)
  subst el e2
  refine thn (po_none.run pins s2 σ H2 (fun o H3 => o = none ∧ H3 = H2) I2 ⟨rfl, rfl⟩) fun vu s3 ⟨u, H3, I3, pu, eu, e3⟩ => ?_
  subst eu e3
  refine thn (hst.run pins s3 σ H3 (fun o H4 => o = some (-1) ∧ H4 = H3) I3 ⟨1, rfl, -1, rfl, rfl, rfl⟩) fun vs s4 ⟨o, H4, I4, ps, eo, e4⟩ => ?_
  subst eo e4
  have I5 : Inv X pins σ H4 { s4 with heap := s4.heap.push { cls := .type "slice", data := .fields #[vl, vu, vs] } } := I4.kept (t' := s4.toks) fun b ob q => Heap.get?_push_of_some _ q
  obtain ⟨its, r, ht, hz⟩ := I5.tuple hx
  have evl : vl = .none := by cases pl; rfl
  have evu : vu = .none := by cases pu; rfl
  obtain ⟨tk, evs⟩ : ∃ tk, vs = .int (-1) tk := by cases ps; exact ⟨_, rfl⟩
  subst evl evu evs
  show wpAny (model X.prog X.w) X.A (subscriptTail e (.Slice none none (some (.UnaryOp .USub (.Constant (.int 1) k p1) p2)) p3) (.ref a) (.ref s4.heap.objs.size)) (EP X pins σ Q) X.xe { s4 with heap := s4.heap.push { cls := .type "slice", data := .fields #[.none, .none, .int (-1) tk] } }
  refine tail_any (ops := [.ref a, .ref s4.heap.objs.size]) ht.typeIs (PyProof.Rows.slot_tuple_getitem.lookup) ?_ (by with_unfolding_all rfl)
  refine getItem_tuple_back ht (Heap.get?_push_size _ rfl) rfl rfl ?_ (by rw [List.size_toArray, ← r.length]; exact hz)
  refine ⟨.ref _, _, I5.laid (t' := s4.toks) (o := .tup xs.reverse) (fun b ob q => Heap.get?_push_of_some _ q) (Nat.le_refl _) ?_, rfl, q _ (I5.hok.fresh (Nat.le_refl _))⟩
  exact ⟨by rw [List.length_reverse]; exact hz, _, r.reverse, IsTup.new _ _⟩
end
end Al
end
section
set_option Elab.async false
set_option linter.all false
set_option maxRecDepth 100000
set_option maxHeartbeats 2000000
/-! enumerate of a tuple. -/
namespace Al
open PySem PySem.Spec PyProof.Rows L2
set_option maxHeartbeats 1000000 in
theorem meets_enum_new1 {v : Value} {o : Obj} {H : Heap → Prop} (B : Begins v o H) :
    Meets (Builtin.«enumerate.__new__» ⟨[.type "enumerate", v], []⟩) (fun _ R s => H s.heap ∧
      R (.ok (.ret (.ref (s.heap.push o).objs.size))) { s with heap := (s.heap.push o).push { cls := .type "enumerate", data := .fields #[.none, .bool false, .ref s.heap.objs.size, rawInt 0, .none, .none] } }) :=
  .of_wp fun prog w A R s h => by
    obtain ⟨hp, g, d, tk, os⟩ := s; obtain ⟨h1, h⟩ := h
    have hsub := sub_enumerate
    have q1 : ∀ {A' : Around} {E : Value → Shared → Prop} {Q : Value → Shared → Prop}, Q (.ref hp.objs.size) ⟨hp.push o, g, d, tk, os⟩ → wpAny (model prog w) A' (pyIter v) Q E ⟨hp, g, d, tk, os⟩ :=
      fun q => B.iter prog w _ _ ⟨hp, g, d, tk, os⟩ _ h1 q
    wp_walk using q1
    refine wpAny_stack_any fun st => wpAny_pure ?_
    split
    · rename_i c _ _ _ _ _
      cases (c == Value.type "enumerate")
      · wp_walk using q1
        exact ⟨_, rfl, h⟩
      · wp_walk using q1
        exact ⟨_, rfl, h⟩
    · wp_walk using q1
      exact ⟨_, rfl, h⟩
section
variable {prog : Program} {w : World} {A : Around} {E : Value → Shared → Prop} {s : Shared}
theorem enum_begins1 {v : Value} {o : Obj} {H : Heap → Prop} {Q : Value → Shared → Prop} (B : Begins v o H) (h1 : H s.heap)
    (h : ∀ h', IsEnum h' (s.heap.objs.size + 1) s.heap.objs.size 0 .none → h'.get? s.heap.objs.size = some o → h'.objs.size = s.heap.objs.size + 2 →
      (∀ b o, s.heap.get? b = some o → h'.get? b = some o) → Q (.ref (s.heap.objs.size + 1)) { s with heap := h' }) :
    wpAny (model prog w) A (call (.type "enumerate") [v]) Q E s := by
  refine callType_new F.called_enumerate (by decide) (F.typeCall_enumerate_1 _) (F.newCall_enumerate_1 _) (fun obj => F.args_object_init_2 obj _) F.entry_enumerate_new
    (meets_enum_new1 B) ⟨h1, ?_⟩
  have hz : (s.heap.push o).objs.size = s.heap.objs.size + 1 := Heap.size_push ..
  show _ ∧ _
  rw [hz]
  have he : IsEnum ((s.heap.push o).push { cls := .type "enumerate", data := .fields #[.none, .bool false, .ref s.heap.objs.size, rawInt 0, .none, .none] }) (s.heap.objs.size + 1) s.heap.objs.size 0 .none := by
    have := Heap.get?_push_size (s.heap.push o) (o := { cls := .type "enumerate", data := .fields #[.none, .bool false, .ref s.heap.objs.size, rawInt 0, .none, .none] }) rfl
    rw [hz] at this; exact this
  refine ⟨⟨_, he, rfl⟩, h _ he (Heap.get?_push_of_some _ (Heap.get?_push_size _ B.free)) (by rw [Heap.size_push, hz]) fun b o x => Heap.get?_push_of_some _ (Heap.get?_push_of_some _ x)⟩
end
/-- the tuple at a, each item in a new pair -/
def IteT (K : PySem.W.Frag) (a : Addr) : It :=
  ⟨fun i H => ∃ (xs : List V) (x : V), SqT K H a xs ∧ xs[i]? = some x, fun i H v H' => ∃ T x, v = .ref T ∧ H T = none ∧ H' = upd H T (.tup [.int (i : Nat), x]) ∧ ∀ xs, SqT K H a xs → xs[i]? = some x, fun i H => ∃ xs : List V, SqT K H a xs ∧ xs.length ≤ i⟩
theorem turn_enumT {P : Program} {w : World} {K : PySem.W.Frag} {elts : List Expr} {kk : Nat} {tpos : Pos} (a e it : Addr) :
    Turn P w K (.Tuple elts kk tpos) (IteT K a) [e, it] e (fun i h => (∃ old, IsEnum h e it ((i : Nat) : Int) old) ∧ h.IsTupleIter it a i ∧ e ≠ it) where
  mem := by simp
  obj := fun i h st b hb => by
    obtain ⟨⟨old, he⟩, ⟨o, ho, hc, hd⟩, _⟩ := st
    have e' : b = e ∨ b = it := by simpa using hb
    rcases e' with z | z
    · rw [z]; exact ⟨_, he, fun v q => nomatch q⟩
    · rw [z]; exact ⟨o, ho, fun v q => by rw [hd] at q; cases q⟩
  keep := fun i h h' st k => let ⟨⟨old, he⟩, hi, hne⟩ := st; ⟨⟨old, k e (by simp) _ he⟩, hi.at fun o q => k it (by simp) o q, hne⟩
  item := by
    intro X hP hw hK hc i pins s σ H E I hf st hg
    subst hP hw hK
    obtain ⟨⟨old, he⟩, hit, hne⟩ := st
    obtain ⟨xs, x, hq, hx⟩ := hg
    obtain ⟨its, rv, p, hz⟩ := I.tuple hq
    obtain ⟨u, hu, ru⟩ := rv.get hx
    have hel : e < s.heap.objs.size := Heap.lt_size he
    have hil : it < s.heap.objs.size := by obtain ⟨_, q, _⟩ := hit; exact Heap.lt_size q
    have p' : s.heap.IsTuple a its.toArray := p
    have hae : a ≠ it := fun z => by
      obtain ⟨o1, q1, c1, _⟩ := hit
      obtain ⟨o2, q2, c2, _⟩ := p'
      rw [z, q1] at q2
      cases q2
      rw [c1] at c2
      exact absurd c2 (by decide)
    have hee : a ≠ e := fun z => by
      obtain ⟨o2, q2, c2, _⟩ := p'
      rw [z, show s.heap.get? e = _ from he] at q2
      cases q2
      exact absurd (show Value.type "enumerate" = Value.type "tuple" from c2) (by decide)
    have hli : i < its.toArray.size := by
      have := (List.getElem?_eq_some_iff.mp hu).1
      simpa using this
    refine wpAny_pyNext_enum_itemD (Draws.tuple (A := X.A.in1) (I.ok.hd hc) it a hae its.toArray) he ⟨hit, p'⟩ hli hne (by simp [hne, Ne.symm hee]) fun y h' tk hy ho hst' hT hsz hk => ?_
    have ey : y = u := by
      have hy : its.toArray[i]? = some y := hy
      rw [show its.toArray[i]? = its[i]? by simp, hu] at hy
      exact (Option.some.inj hy).symm
    subst ey
    refine ⟨_, rfl, wpAny_letOwnedTupleGo_enum (s := { s with heap := h', toks := tk + 1 }) ho fun h'' he' sb => ?_⟩
    have hT2 : h''.get? s.heap.objs.size = some { cls := .type "tuple", data := .seq #[.int i tk, y] } := (sb.2 _ (Nat.ne_of_gt hel)).trans hT
    have new : ObjOk X.prog X.w (upd H s.heap.objs.size (.tup [.int (i : Nat), x])) h'' s.heap.objs.size (.tup [.int (i : Nat), x]) :=
      ⟨by show 2 ≤ sizeLine; decide, [.int i tk, y], .cons ⟨_, rfl⟩ (.cons ru .nil), ⟨_, hT2, rfl, _, rfl⟩⟩
    have I1 : Inv X pins σ (upd H s.heap.objs.size (.tup [.int (i : Nat), x])) { s with heap := h'', toks := tk + 1 } :=
      I.turnedNew (ch := [e, it]) (fun b ob hb q => (sb.2 b (fun z => hb (by simp [z]))).trans (hk b ob (fun z => hb (by simp [z])) (fun z => hb (by simp [z])) q)) hf (Nat.le_refl _) new
    refine ⟨.ref s.heap.objs.size, _, I1, rfl, ⟨_, x, rfl, I.hok.fresh (Nat.le_refl _), rfl, fun ys hy => by rw [I.tuple_inj hy hq]; exact hx⟩, ⟨⟨y, ?_⟩, hst'.1.at fun o q => (sb.2 it (Ne.symm hne)).trans q, hne⟩, fun b hb => ?_⟩
    · have e1 : ((i + 1 : Nat) : Int) = (i : Int) + 1 := by omega
      rw [e1]; exact he'
    · have hb' : b < s.heap.objs.size := by
        have e' : b = e ∨ b = it := by simpa using hb
        rcases e' with z | z
        · rw [z]; exact hel
        · rw [z]; exact hil
      rw [upd_ne (Nat.ne_of_lt hb')]
      exact (hf b hb).1
  done := by
    intro X hP hw hK hc i pins s σ H E I hf st hg
    subst hP hw hK
    obtain ⟨⟨old, he⟩, hit, hne⟩ := st
    obtain ⟨xs, hq, hx⟩ := hg
    obtain ⟨its, rv, p, hz⟩ := I.tuple hq
    have p' : s.heap.IsTuple a its.toArray := p
    obtain ⟨f0, f1, f2, f3, f4, f5⟩ := hf it (by simp)
    have hl := rv.length
    unfold pyNext
    have hT : s.TypeIs (.ref e) "enumerate" := ⟨_, he, rfl⟩
    refine wpAny_bind (wpAny_attempt (wpAny_callSpecial?_slot (name := Str.ofString "__next__") hT F.slot_enumerate_next
      (wpAny_call_entry F.slot_enumerate_next hT F.entry_enumerate_next ?_ (F.args_enumerate_next_1 _))))
    show wpAny _ _ (field (.ref e) 2 >>= _) _ _ _
    refine wpAny_bind (wpAny_field he rfl (x := .ref it) rfl ?_)
    refine wpAny_bind (wpAny_nextOf_tuple_end (A := X.A.in1) (I.ok.hd hc) hit p' (by simp; omega) fun h' x he' hx' => ?_)
    obtain ⟨o, ho, hc⟩ := hx'
    refine wpAny_bind (wpAny_isInstance (T := "StopIteration") (b := true) ⟨o, ho, hc⟩ isSubtype_stop ?_)
    exact wpAny_pure ⟨rfl, I.turned (t' := s.toks) (fun b o hb q => he' b o hb q) f0 f1 f3 f4 f5⟩
  self := fun A i s Q E st h => let ⟨⟨_, he⟩, _⟩ := st; wpAny_pyIter_enum he h
def iEnumT (K : PySem.W.Frag) (ta : TA) : TI := fun σ H R => ta σ H fun vs H1 => ∃ a xs, vs = [.ref a] ∧ SqT K H1 a xs ∧ R (IteT K a) H1
theorem pi_enumT {X : Cx} {e : Expr} {ta : TA} {p pos tpos : Pos} {elts : List Expr} {kk : Nat} (hg : Gl X "enumerate") (hm : X.mg "enumerate" = none) (ha : PA X [e] ta) (hs : starEach [e] X.env = [(false, eval e X.env)] := by rfl) :
    PI X (.Tuple elts kk tpos) (.Call (.Name "enumerate" p) [e] [] pos) (iEnumT X.K ta) := by
  refine ⟨fun pins s σ H R I h => ?_⟩
  refine Call_ (ld_blt I hg hm boot_enumerate (PyProof.Rows.callWith_type1 (thn (ha.run pos pins s σ H _ I h) fun us s1 ⟨vs, H1, I1, r1, q1⟩ => ?_) hs rfl))
  obtain ⟨a, xs, ex, hq, q⟩ := q1
  subst ex
  cases r1 with
  | cons r rr =>
    cases rr
    cases r
    obtain ⟨its, rv, p', hz⟩ := I1.tuple hq
    refine enum_begins1 (begins_tuple a its.toArray) p' fun h' he hit hsz hk => wpAny_pyIter_enum he ?_
    have I2 : Inv X pins σ H1 { s1 with heap := h' } := I1.kept (t' := s1.toks) hk
    refine ⟨s1.heap.objs.size + 1, [s1.heap.objs.size + 1, s1.heap.objs.size], _, _, H1, rfl, I2, turn_enumT a (s1.heap.objs.size + 1) s1.heap.objs.size, ⟨⟨.none, he⟩, ⟨_, hit, rfl, rfl⟩, Nat.succ_ne_self _⟩, fun b hb => ?_, q⟩
    have e' : b = s1.heap.objs.size + 1 ∨ b = s1.heap.objs.size := by simpa using hb
    have hle : s1.heap.objs.size ≤ b := by
      rcases e' with z | z
      · rw [z]; exact Nat.le_add_right _ _
      · rw [z]; exact Nat.le_refl _
    exact I1.fpOk hle (I1.hok.fresh hle)
/-- enumerate of a list or a tuple -/
def iEnumA (K : PySem.W.Frag) (ta : TA) : TI := fun σ H R => ta σ H fun vs H1 => ∃ a xs, vs = [.ref a] ∧ ((SqL K H1 a xs ∧ R (Ite K a) H1) ∨ (SqT K H1 a xs ∧ R (IteT K a) H1))
theorem pi_enumA {X : Cx} {e : Expr} {ta : TA} {p pos tpos : Pos} {elts : List Expr} {kk : Nat} (hg : Gl X "enumerate") (hm : X.mg "enumerate" = none) (ha : PA X [e] ta) (hs : starEach [e] X.env = [(false, eval e X.env)] := by rfl) :
    PI X (.Tuple elts kk tpos) (.Call (.Name "enumerate" p) [e] [] pos) (iEnumA X.K ta) := by
  refine ⟨fun pins s σ H R I h => ?_⟩
  refine Call_ (ld_blt I hg hm boot_enumerate (PyProof.Rows.callWith_type1 (thn (ha.run pos pins s σ H _ I h) fun us s1 ⟨vs, H1, I1, r1, q1⟩ => ?_) hs rfl))
  obtain ⟨a, xs, ex, ⟨hq, q⟩ | ⟨hq, q⟩⟩ := q1
  · subst ex
    cases r1 with
    | cons r rr =>
      cases rr
      cases r
      obtain ⟨its, rv, p', hz⟩ := I1.list hq
      refine call_enumerate_list p'.isList fun h' he hit hsz hk => wpAny_pyIter_enum he ?_
      have I2 : Inv X pins σ H1 { s1 with heap := h' } := I1.kept (t' := s1.toks) hk
      refine ⟨s1.heap.objs.size + 1, [s1.heap.objs.size + 1, s1.heap.objs.size], _, _, H1, rfl, I2, turn_enum a (s1.heap.objs.size + 1) s1.heap.objs.size, ⟨⟨.none, he⟩, hit, Nat.succ_ne_self _⟩, fun b hb => ?_, q⟩
      have e' : b = s1.heap.objs.size + 1 ∨ b = s1.heap.objs.size := by simpa using hb
      have hle : s1.heap.objs.size ≤ b := by
        rcases e' with z | z
        · rw [z]; exact Nat.le_add_right _ _
        · rw [z]; exact Nat.le_refl _
      exact I1.fpOk hle (I1.hok.fresh hle)
  · subst ex
    cases r1 with
    | cons r rr =>
      cases rr
      cases r
      obtain ⟨its, rv, p', hz⟩ := I1.tuple hq
      refine enum_begins1 (begins_tuple a its.toArray) p' fun h' he hit hsz hk => wpAny_pyIter_enum he ?_
      have I2 : Inv X pins σ H1 { s1 with heap := h' } := I1.kept (t' := s1.toks) hk
      refine ⟨s1.heap.objs.size + 1, [s1.heap.objs.size + 1, s1.heap.objs.size], _, _, H1, rfl, I2, turn_enumT a (s1.heap.objs.size + 1) s1.heap.objs.size, ⟨⟨.none, he⟩, ⟨_, hit, rfl, rfl⟩, Nat.succ_ne_self _⟩, fun b hb => ?_, q⟩
      have e' : b = s1.heap.objs.size + 1 ∨ b = s1.heap.objs.size := by simpa using hb
      have hle : s1.heap.objs.size ≤ b := by
        rcases e' with z | z
        · rw [z]; exact Nat.le_add_right _ _
        · rw [z]; exact Nat.le_refl _
      exact I1.fpOk hle (I1.hok.fresh hle)
end Al
end
section
set_option Elab.async false
set_option linter.all false
set_option maxRecDepth 100000
set_option maxHeartbeats 2000000
/-! Walks, targets, loops, comprehensions, generator expressions on data. -/
namespace Al
open PySem PySem.Spec PyProof.Rows L2
variable {K : PySem.W.Frag} {T : List Addr}
/-- J walks the items -/
def Walks (K : PySem.W.Frag) (T : List Addr) (F : Hp) (J : It) (items : List D) : Prop := ∀ F1 O H, Ex F F1 → Wd K T F1 O H →
  J.stop items.length H ∧ ∀ i d, items[i]? = some d → J.go i H ∧ ∀ x H', J.yld i H x H' → ∃ F2, Ex F1 F2 ∧ Wd K T F2 O H' ∧ Rp K F2 d x
def RunI (K : PySem.W.Frag) (T : List Addr) (wi : TI) (ρ : Rho) (O : Own) (P : List D → Own → Prop) : Prop := ∀ (F H : Hp) (Ξ : Own) (σ : L2.St), Wd K T F (O ++ Ξ) H → Env K F ρ σ →
  ∀ R : It → Hp → Prop, (∀ J items F' O' H', Ex F F' → Wd K T F' (O' ++ Ξ) H' → Walks K T F' J items → P items O' → R J H') → wi σ H R
def RunG (K : PySem.W.Frag) (T : List Addr) (g : TG) (d : D) (ρ : Rho) (O : Own) (P : Rho → Own → Prop) : Prop := ∀ (F H : Hp) (Ξ : Own) (σ : L2.St) (v : V), Wd K T F (O ++ Ξ) H → Env K F ρ σ → Rp K F d v →
  ∀ Q : L2.St → Hp → Prop, (∀ ρ' σ' F' O' H', Ex F F' → Wd K T F' (O' ++ Ξ) H' → Env K F' ρ' σ' → P ρ' O' → Q σ' H') → g v σ H Q
/-! ### targets -/
theorem rg_name {i : Nat} {d : D} {ρ : Rho} {O : Own} {P : Rho → Own → Prop} (h : P (ρ.set i (.d d)) O) : RunG K T (gName i) d ρ O P := fun F H Ξ σ v w e r Q q =>
  q (ρ.set i (.d d)) (σ.set i (some v)) F O H (Ex.refl F) w (e.set i (s := .d d) ⟨v, rfl, r⟩) h
theorem rg_two {i j : Nat} {d1 d2 : D} {ρ : Rho} {O : Own} {P : Rho → Own → Prop} (h : P ((ρ.set i (.d d1)).set j (.d d2)) O) : RunG K T (gTup K 2 (gCons (gName i) (gCons (gName j) gNil))) (.tup [d1, d2]) ρ O P := fun F H Ξ σ v w e r Q q => by
  obtain ⟨a, vs, rfl, h1, v1, r1, rfl, q1, v2, r2, rfl, q2, rfl⟩ := r
  refine ⟨a, _, rfl, w.ex.seqT h1, rfl, v1, _, rfl, v2, _, rfl, rfl, ?_⟩
  exact q _ _ F O H (Ex.refl F) w ((e.set i (s := .d d1) ⟨v1, rfl, q1⟩).set j (s := .d d2) ⟨v2, rfl, q2⟩) h
/-! ### what is walked -/
theorem walks_list {F : Hp} {a : Addr} {l : List D} {vs : List V} (h : SqL K F a vs) (r : RpL K F l vs) : Walks K T F (Itl K a) l := fun F1 O H e w => by
  have h1 : SqL K H a vs := w.ex.seqL (e.seqL h)
  refine ⟨⟨vs, h1, by rw [r.length]; exact Nat.le_refl _⟩, fun i d hd => ?_⟩
  obtain ⟨v, hv, rv⟩ := r.get hd
  refine ⟨⟨vs, v, h1, hv⟩, fun x H' y => ?_⟩
  obtain ⟨rfl, y⟩ := y
  have := y vs h1
  rw [hv] at this
  cases this
  exact ⟨F1, Ex.refl F1, w, Rp.mono e _ _ rv⟩
theorem walks_tup {F : Hp} {a : Addr} {l : List D} {vs : List V} (h : SqT K F a vs) (r : RpL K F l vs) : Walks K T F (Itt K a) l := fun F1 O H e w => by
  have h1 : SqT K H a vs := w.ex.seqT (e.seqT h)
  refine ⟨⟨vs, h1, by rw [r.length]; exact Nat.le_refl _⟩, fun i d hd => ?_⟩
  obtain ⟨v, hv, rv⟩ := r.get hd
  refine ⟨⟨vs, v, h1, hv⟩, fun x H' y => ?_⟩
  obtain ⟨rfl, y⟩ := y
  have := y vs h1
  rw [hv] at this
  cases this
  exact ⟨F1, Ex.refl F1, w, Rp.mono e _ _ rv⟩
/-- for x in e, e a list or a tuple -/
def iSeq (K : PySem.W.Frag) (tl : TE) : TI := fun σ H R => tl σ H fun x H1 => ∃ a, x = .ref a ∧ (((∃ xs, SqL K H1 a xs) ∧ R (Itl K a) H1) ∨ ((∃ xs, SqT K H1 a xs) ∧ R (Itt K a) H1))
theorem pi_seq {X : Cx} {tg l : Expr} {tl : TE} (hl : PE X l tl) : PI X tg l (iSeq X.K tl) := by
  refine ⟨fun pins s σ H R I h => ?_⟩
  refine thn (hl.run pins s σ H _ I h) fun v s1 ⟨x, H1, I1, r1, q1⟩ => ?_
  obtain ⟨a, e, ⟨⟨xs, hq⟩, q⟩ | ⟨⟨xs, hq⟩, q⟩⟩ := q1
  · subst e
    cases r1
    obtain ⟨its, rv, p, hz⟩ := I1.list hq
    refine wpAny_pyIter_list p.isList ?_
    refine ⟨s1.heap.objs.size, [s1.heap.objs.size], _, _, H1, rfl, I1.kept (t' := s1.toks) fun b o e => Heap.get?_push_of_some _ e, turn_list a _, ⟨_, Heap.get?_push_size _ rfl, rfl, rfl⟩, fun b hb => ?_, q⟩
    have e : b = s1.heap.objs.size := by simpa using hb
    subst e
    exact I1.fpOk (Nat.le_refl _) (I1.hok.fresh (Nat.le_refl _))
  · subst e
    cases r1
    obtain ⟨its, rv, p, hz⟩ := I1.tuple hq
    refine wpAny_pyIter_tuple (show s1.heap.IsTuple a its.toArray from p) ?_
    refine ⟨s1.heap.objs.size, [s1.heap.objs.size], _, _, H1, rfl, I1.kept (t' := s1.toks) fun b o e => Heap.get?_push_of_some _ e, turn_tuple a _, ⟨_, Heap.get?_push_size _ rfl, rfl, rfl⟩, fun b hb => ?_, q⟩
    have e : b = s1.heap.objs.size := by simpa using hb
    subst e
    exact I1.fpOk (Nat.le_refl _) (I1.hok.fresh (Nat.le_refl _))
/-- the items of data that can be walked -/
def itemsOf : D → Option (List D)
  | .tup l => some l
  | .lst l => some l
  | .scr l => some l
  | _ => none
theorem seq_of {F : Hp} {d : D} {l : List D} {v : V} (h : itemsOf d = some l) (r : Rp K F d v) : ∃ a vs, v = .ref a ∧ RpL K F l vs ∧ (SqL K F a vs ∨ SqT K F a vs) := by
  cases d with
  | tup m => cases h; obtain ⟨a, vs, rfl, h1, h2⟩ := r; exact ⟨a, vs, rfl, h2, .inr h1⟩
  | lst m => cases h; obtain ⟨a, vs, rfl, h1, h2⟩ := r; exact ⟨a, vs, rfl, h2, .inl (.of h1)⟩
  | scr m => cases h; obtain ⟨a, vs, rfl, h1, h2⟩ := r; exact ⟨a, vs, rfl, h2, .inl h1⟩
  | _ => cases h
theorem ri_seq {te : TE} {ρ : Rho} {O : Own} {P : List D → Own → Prop} (h : RunE K T te ρ O fun s O1 => ∃ d l, s = .d d ∧ itemsOf d = some l ∧ P l O1) : RunI K T (iSeq K te) ρ O P := fun F H Ξ σ w e R q =>
  h F H Ξ σ w e _ fun v s F' O' H' e1 w1 r1 ⟨d, l, hs, hl, p⟩ => by
    subst hs
    obtain ⟨a, vs, rfl, hr, hq⟩ := seq_of hl r1
    refine ⟨a, rfl, ?_⟩
    rcases hq with hq | hq
    · exact .inl ⟨⟨vs, w1.ex.seqL hq⟩, q _ l F' O' H' e1 w1 (walks_list hq hr) p⟩
    · exact .inr ⟨⟨vs, w1.ex.seqT hq⟩, q _ l F' O' H' e1 w1 (walks_tup hq hr) p⟩
def signs (x : Str) : List D := x.cps.toList.map fun c => .str ⟨#[c]⟩
theorem ri_str {te : TE} {ρ : Rho} {O : Own} {P : List D → Own → Prop} (h : RunE K T te ρ O fun s O1 => ∃ x, s = .d (.str x) ∧ P (signs x) O1) : RunI K T (iStr te) ρ O P := fun F H Ξ σ w e R q =>
  h F H Ξ σ w e _ fun v s F' O' H' e1 w1 r1 ⟨x, hs, p⟩ => by
    subst hs
    refine ⟨x, r1, q _ (signs x) F' O' H' e1 w1 (fun F1 O1 H1 e2 w2 => ⟨?_, fun i d hd => ?_⟩) p⟩
    · show x.cps.size ≤ (signs x).length
      simp [signs]
    · have hd : x.cps[i]?.map (fun c => D.str ⟨#[c]⟩) = some d := by simpa [signs] using hd
      obtain ⟨c, hc, rfl⟩ := Option.map_eq_some_iff.mp hd
      refine ⟨(Array.getElem?_eq_some_iff.mp hc).1, fun y H' hy => ?_⟩
      obtain ⟨rfl, c', hc', rfl⟩ := hy
      rw [hc] at hc'
      cases hc'
      exact ⟨F1, Ex.refl F1, w2, rfl⟩
def intsFrom (lo : Int) (n : Nat) : List D := (List.range n).map fun i => .int (lo + (i : Nat))
theorem walks_range {F : Hp} {lo : Int} {n : Nat} : Walks K T F (Itr lo n) (intsFrom lo n) := fun F1 O1 H1 e2 w2 => ⟨by show n ≤ _; simp [intsFrom], fun i d hd => by
  have hd : (List.range n)[i]?.map (fun i => D.int (lo + (i : Nat))) = some d := by simpa [intsFrom] using hd
  obtain ⟨j, hj, rfl⟩ := Option.map_eq_some_iff.mp hd
  have hi : i < n := by
    have := (List.getElem?_eq_some_iff.mp hj).1
    simpa using this
  rw [List.getElem?_range hi] at hj
  cases hj
  refine ⟨hi, fun y H' hy => ?_⟩
  obtain ⟨rfl, rfl⟩ := hy
  exact ⟨F1, Ex.refl F1, w2, rfl⟩⟩
theorem ri_rng1 {ta : TA} {ρ : Rho} {O : Own} {P : List D → Own → Prop} (h : RunA K T ta ρ O fun xs O1 => ∃ j : Int, xs = [.d (.int j)] ∧ -(2 ^ 62) ≤ j ∧ j < 2 ^ 62 ∧ P (intsFrom 0 j.toNat) O1) : RunI K T (iRng1 ta) ρ O P := fun F H Ξ σ w e R q =>
  h F H Ξ σ w e _ fun vs xs F' O' H' e1 w1 r1 ⟨j, hs, h1, h2, p⟩ => by
    subst hs
    obtain ⟨v, r, rfl, hv, hr⟩ := r1
    have hv : v = .int j := hv
    have hr : r = [] := hr
    subst hv hr
    exact ⟨j, rfl, h1, h2, q _ _ F' O' H' e1 w1 walks_range p⟩
theorem ri_rng2 {ta : TA} {ρ : Rho} {O : Own} {P : List D → Own → Prop} (h : RunA K T ta ρ O fun xs O1 => ∃ i j : Int, xs = [.d (.int i), .d (.int j)] ∧ (-(2 ^ 62) ≤ i ∧ i < 2 ^ 62 ∧ -(2 ^ 62) ≤ j ∧ j < 2 ^ 62) ∧ P (intsFrom i (j - i).toNat) O1) : RunI K T (iRng2 ta) ρ O P := fun F H Ξ σ w e R q =>
  h F H Ξ σ w e _ fun vs xs F' O' H' e1 w1 r1 ⟨i, j, hs, h1, p⟩ => by
    subst hs
    obtain ⟨v, r, rfl, hv, u, r', rfl, hu, hr⟩ := r1
    have hv : v = .int i := hv
    have hu : u = .int j := hu
    have hr : r' = [] := hr
    subst hv hu hr
    exact ⟨i, j, rfl, h1, q _ _ F' O' H' e1 w1 walks_range p⟩
def pairs (l : List D) : List D := l.zipIdx.map fun p => .tup [.int (p.2 : Nat), p.1]
theorem pairs_get {l : List D} {i : Nat} {d : D} (h : (pairs l)[i]? = some d) : ∃ x, l[i]? = some x ∧ d = .tup [.int (i : Nat), x] := by
  unfold pairs at h
  rw [List.getElem?_map, List.getElem?_zipIdx] at h
  cases q : l[i]? with
  | none => rw [q] at h; cases h
  | some x => rw [q] at h; cases h; exact ⟨x, rfl, by simp⟩
theorem ri_enum {ta : TA} {ρ : Rho} {O : Own} {P : List D → Own → Prop} (h : RunA K T ta ρ O fun xs O1 => ∃ d l, xs = [.d d] ∧ itemsOf d = some l ∧ P (pairs l) O1) : RunI K T (iEnumA K ta) ρ O P := fun F H Ξ σ w e R q =>
  h F H Ξ σ w e _ fun vs xs F' O' H' e1 w1 r1 ⟨d, l, hs, hl, p⟩ => by
    subst hs
    obtain ⟨v, r, rfl, hv, hr⟩ := r1
    have hr : r = [] := hr
    subst hr
    obtain ⟨a, us, rfl, hL, hq⟩ := seq_of hl hv
    have hlen : (pairs l).length = us.length := by rw [hL.length]; simp [pairs]
    refine ⟨a, us, rfl, ?_⟩
    have fin : ∀ (F1 H1 H' : Hp) (O1 : Own) (i : Nat) (x : V) (d : D) (v : V), Ex F' F1 → Wd K T F1 O1 H1 → us[i]? = some v → Rp K F' d v → (∃ T y, x = .ref T ∧ H1 T = none ∧ H' = upd H1 T (.tup [.int (i : Nat), y]) ∧ us[i]? = some y) → ∃ F2, Ex F1 F2 ∧ Wd K T F2 O1 H' ∧ Rp K F2 (.tup [.int (i : Nat), d]) x := by
      intro F1 H1 H' O1 i x d v e2 w2 hv rv hx
      obtain ⟨p, y, rfl, hp, rfl, hy⟩ := hx
      rw [hv] at hy
      cases hy
      have e3 : Ex F1 (upd F1 p (.tup [.int (i : Nat), v])) := Ex.new (w2.ex.back hp)
      exact ⟨_, e3, w2.new hp, p, _, rfl, .inl (.inl upd_same), .int (i : Nat), [v], rfl, rfl, v, [], rfl, Rp.mono (e2.trans e3) _ _ rv, rfl⟩
    rcases hq with hq | hq
    · refine .inl ⟨w1.ex.seqL hq, q _ (pairs l) F' O' H' e1 w1 (fun F1 O1 H1 e2 w2 => ?_) p⟩
      have h1 : SqL K H1 a us := w2.ex.seqL (e2.seqL hq)
      refine ⟨⟨us, h1, by rw [hlen]; exact Nat.le_refl _⟩, fun i d hd => ?_⟩
      obtain ⟨y, hy, rfl⟩ := pairs_get hd
      obtain ⟨v, hv, rv⟩ := hL.get hy
      refine ⟨⟨us, v, h1, hv⟩, fun x H' yl => fin F1 H1 H' O1 i x y v e2 w2 hv rv ?_⟩
      obtain ⟨p, z, rfl, hp, hH, hz⟩ := yl
      exact ⟨p, z, rfl, hp, hH, hz us h1⟩
    · refine .inr ⟨w1.ex.seqT hq, q _ (pairs l) F' O' H' e1 w1 (fun F1 O1 H1 e2 w2 => ?_) p⟩
      have h1 : SqT K H1 a us := w2.ex.seqT (e2.seqT hq)
      refine ⟨⟨us, h1, by rw [hlen]; exact Nat.le_refl _⟩, fun i d hd => ?_⟩
      obtain ⟨y, hy, rfl⟩ := pairs_get hd
      obtain ⟨v, hv, rv⟩ := hL.get hy
      refine ⟨⟨us, v, h1, hv⟩, fun x H' yl => fin F1 H1 H' O1 i x y v e2 w2 hv rv ?_⟩
      obtain ⟨p, z, rfl, hp, hH, hz⟩ := yl
      exact ⟨p, z, rfl, hp, hH, hz us h1⟩
/-! ### for -/
theorem rs_for {wi : TI} {g : TG} {tb : TS} {ρ : Rho} {O : Own} {P : Po} (h : RunI K T wi ρ O fun items O1 => ∃ W : Nat → Rho → Own → Prop, W 0 ρ O1 ∧ (∀ ρ' O', W items.length ρ' O' → P.nx ρ' O') ∧
    ∀ i d ρ' O', W i ρ' O' → items[i]? = some d → RunG K T g d ρ' O' fun ρ2 O2 => RunS K T tb ρ2 O2 { nx := W (i + 1), ct := W (i + 1), bk := P.nx, rt := P.rt }) : RunS K T (tFor wi g tb) ρ O P := fun F H Ξ σ w e D d =>
  h F H Ξ σ w e _ fun J items F1 O1 H1 e1 w1 wk ⟨W, h0, hd, hs⟩ => by
    refine ⟨fun i m σ' H' => i + m = items.length ∧ ∃ ρ' O' F', Ex F1 F' ∧ Wd K T F' (O' ++ Ξ) H' ∧ Env K F' ρ' σ' ∧ W i ρ' O', ⟨items.length, by omega, ρ, O1, F1, Ex.refl F1, w1, e.mono e1, h0⟩, ?_⟩
    rintro i m σ' H' ⟨him, ρ', O', F', e2, w2, v2, hW⟩
    obtain ⟨hstop, hgo⟩ := wk F' (O' ++ Ξ) H' e2 w2
    cases q : items[i]? with
    | none =>
      have : items.length ≤ i := List.getElem?_eq_none_iff.mp q
      have : i = items.length := by omega
      subst this
      exact .inl ⟨hstop, d.nx ρ' O' F' H' σ' (e1.trans e2) w2 v2 (hd ρ' O' hW)⟩
    | some x =>
      obtain ⟨g1, g2⟩ := hgo i x q
      have hi : i < items.length := (List.getElem?_eq_some_iff.mp q).1
      refine .inr ⟨g1, fun σ3 H3 => ∃ m', m' < m ∧ (i + 1 + m' = items.length ∧ ∃ ρ' O' F', Ex F1 F' ∧ Wd K T F' (O' ++ Ξ) H3 ∧ Env K F' ρ' σ3 ∧ W (i + 1) ρ' O'), fun σ3 H3 z => z, fun y H3 hy => ?_⟩
      obtain ⟨F2, e3, w3, r3⟩ := g2 y H3 hy
      refine hs i x ρ' O' hW q F2 H3 Ξ σ' y w3 (v2.mono e3) r3 _ fun ρ2 σ2 F4 O4 H4 e4 w4 v4 hb => ?_
      have e14 : Ex F1 F4 := e2.trans (e3.trans e4)
      refine hb F4 H4 Ξ σ2 w4 v4 _ ⟨fun ρ5 O5 F5 H5 σ5 e5 w5 v5 h5 => ⟨m - 1, by omega, by omega, ρ5, O5, F5, e14.trans e5, w5, v5, h5⟩, fun s v O5 F5 H5 e5 w5 r5 h5 => d.rt s v O5 F5 H5 (e1.trans (e14.trans e5)) w5 r5 h5,
        fun ρ5 O5 F5 H5 σ5 e5 w5 v5 h5 => d.nx ρ5 O5 F5 H5 σ5 (e1.trans (e14.trans e5)) w5 v5 h5, fun ρ5 O5 F5 H5 σ5 e5 w5 v5 h5 => ⟨m - 1, by omega, by omega, ρ5, O5, F5, e14.trans e5, w5, v5, h5⟩⟩
/-! ### while -/
theorem rs_while {c : TT} {tb : TS} {ρ : Rho} {O : Own} {P : Po} (W : Nat → Rho → Own → Prop) (h0 : ∃ m, W m ρ O) (hs : ∀ m ρ' O', W m ρ' O' → RunT K T c ρ' O' fun b O1 => if b = true then RunS K T tb ρ' O1 { nx := fun ρ2 O2 => ∃ m', m' < m ∧ W m' ρ2 O2, ct := fun ρ2 O2 => ∃ m', m' < m ∧ W m' ρ2 O2, bk := P.nx, rt := P.rt } else P.nx ρ' O1) : RunS K T (tWhile c tb) ρ O P := fun F H Ξ σ w e D d => by
  refine ⟨fun m σ' H' => ∃ ρ' O' F', Ex F F' ∧ Wd K T F' (O' ++ Ξ) H' ∧ Env K F' ρ' σ' ∧ W m ρ' O', ?_, ?_⟩
  · obtain ⟨m, hm⟩ := h0
    exact ⟨m, ρ, O, F, Ex.refl F, w, e, hm⟩
  · rintro m σ' H' ⟨ρ', O', F', e2, w2, v2, hW⟩
    refine hs m ρ' O' hW F' H' Ξ σ' w2 v2 _ fun b F1 O1 H1 e1 w1 h1 => ?_
    cases b with
    | true =>
      rw [if_pos rfl] at h1 ⊢
      refine ⟨fun σ3 H3 => ∃ m', m' < m ∧ ∃ ρ' O' F', Ex F F' ∧ Wd K T F' (O' ++ Ξ) H3 ∧ Env K F' ρ' σ3 ∧ W m' ρ' O', fun σ3 H3 z => z, ?_⟩
      refine h1 F1 H1 Ξ σ' w1 (v2.mono e1) _ ⟨fun ρ5 O5 F5 H5 σ5 e5 w5 v5 ⟨m', hm, h5⟩ => ⟨m', hm, ρ5, O5, F5, (e2.trans e1).trans e5, w5, v5, h5⟩, fun s v O5 F5 H5 e5 w5 r5 h5 => d.rt s v O5 F5 H5 ((e2.trans e1).trans e5) w5 r5 h5,
        fun ρ5 O5 F5 H5 σ5 e5 w5 v5 h5 => d.nx ρ5 O5 F5 H5 σ5 ((e2.trans e1).trans e5) w5 v5 h5, fun ρ5 O5 F5 H5 σ5 e5 w5 v5 ⟨m', hm, h5⟩ => ⟨m', hm, ρ5, O5, F5, (e2.trans e1).trans e5, w5, v5, h5⟩⟩
    | false =>
      rw [if_neg Bool.false_ne_true] at h1 ⊢
      exact d.nx ρ' O1 F1 H1 σ' (e2.trans e1) w1 (v2.mono e1) h1
/-! ### comprehensions -/
def wipeR (ρ : Rho) : List Nat → Rho
  | [] => ρ
  | v :: vs => (wipeR ρ vs).set v .u
theorem Env.wipe {F : Hp} {ρ : Rho} {σ : L2.St} (h : Env K F ρ σ) : ∀ vs : List Nat, Env K F (wipeR ρ vs) (L2.wipe σ vs)
  | [] => h
  | v :: vs => Env.set v (h.wipe vs) trivial
/-- the target stores at vs alone -/
def GIn (g : TG) (vs : List Nat) : Prop := ∀ v σ σ0 H (Q : L2.St → Hp → Prop), L2.wipe σ vs = σ0 → g v σ H Q → g v σ H fun σ' H' => L2.wipe σ' vs = σ0 ∧ Q σ' H'
theorem wipe_set {σ : L2.St} {i : Nat} {x : Option V} : ∀ {vs : List Nat}, i ∈ vs → L2.wipe (σ.set i x) vs = L2.wipe σ vs
  | v :: vs, h => by
    show (L2.wipe (σ.set i x) vs).set v none = (L2.wipe σ vs).set v none
    by_cases hv : i ∈ vs
    · rw [wipe_set hv]
    · have hi : i = v := by
        rcases List.mem_cons.mp h with h | h
        · exact h
        · exact absurd h hv
      subst hi
      have key : ∀ (us : List Nat), i ∉ us → L2.wipe (σ.set i x) us = (L2.wipe σ us).set i x := by
        intro us
        induction us with
        | nil => intro _; rfl
        | cons u us ih =>
          intro hu
          show (L2.wipe (σ.set i x) us).set u none = ((L2.wipe σ us).set u none).set i x
          rw [ih (fun z => hu (List.mem_cons_of_mem _ z)), List.set_comm _ _ (fun z => hu (by rw [z]; exact List.mem_cons_self))]
      rw [key vs hv, List.set_set]
theorem gin_name {i : Nat} {vs : List Nat} (h : i ∈ vs) : GIn (gName i) vs := fun v σ σ0 H Q e q => ⟨by rw [wipe_set h]; exact e, q⟩
theorem gin_two {i j : Nat} {vs : List Nat} (hi : i ∈ vs) (hj : j ∈ vs) : GIn (gTup K 2 (gCons (gName i) (gCons (gName j) gNil))) vs := fun v σ σ0 H Q e q => by
  obtain ⟨a, xs, h1, h2, h3, v1, r1, h4, v2, r2, h5, h6, h7⟩ := q
  exact ⟨a, xs, h1, h2, h3, v1, r1, h4, v2, r2, h5, h6, by rw [wipe_set hj, wipe_set hi]; exact e, h7⟩
theorem wipe_get {σ : L2.St} {i : Nat} : ∀ {vs : List Nat}, i ∈ vs → (L2.wipe σ vs).set i none = L2.wipe σ vs
  | v :: vs, h => by
    show ((L2.wipe σ vs).set v none).set i none = (L2.wipe σ vs).set v none
    by_cases hi : i = v
    · subst hi; rw [List.set_set]
    · have h : i ∈ vs := by
        rcases List.mem_cons.mp h with h | h
        · exact absurd h hi
        · exact h
      rw [List.set_comm _ _ (Ne.symm hi), wipe_get h]
theorem wipe_sub {σ : L2.St} {vs : List Nat} : ∀ {us : List Nat}, (∀ u ∈ us, u ∈ vs) → L2.wipe (L2.wipe σ vs) us = L2.wipe σ vs
  | [], _ => rfl
  | u :: us, h => by
    show (L2.wipe (L2.wipe σ vs) us).set u none = _
    rw [wipe_sub fun x hx => h x (List.mem_cons_of_mem _ hx), wipe_get (h u List.mem_cons_self)]
theorem lc_gen {wi : TI} {g : TG} {tt : TT} {te : TE} {vs : List Nat} {ρ : Rho} {O : Own} {PQ : Addr → List D → Own → Hp → Hp → Own → VK → Prop} (gi : GIn g vs) (h : RunI K T wi ρ O fun items O1 => ∃ W : Nat → List D → Own → Prop, W 0 [] O1 ∧ items.length < sizeLine ∧
    (∀ p acc F' O' H' Ξ Q, W items.length acc O' → Wd K T F' ((p, .ls acc) :: (O' ++ Ξ)) H' → PQ p acc O' F' H' Ξ Q → Q (.ref p) H') ∧
    ∀ i d acc O', W i acc O' → items[i]? = some d → RunG K T g d (wipeR ρ vs) O' fun ρ2 O2 => RunT K T tt ρ2 O2 fun b O3 => if b = true then RunE K T te ρ2 O3 fun s O4 => ∃ y, s = .d y ∧ acc.length ≤ i ∧ W (i + 1) (acc ++ [y]) O4 else W (i + 1) acc O3)
    {F H : Hp} {Ξ : Own} {σ : L2.St} (w : Wd K T F (O ++ Ξ) H) (e : Env K F ρ σ) (Q : VK) (q : ∀ p acc O' F' H', Ex F F' → Wd K T F' ((p, .ls acc) :: (O' ++ Ξ)) H' → PQ p acc O' F' H' Ξ Q) : tLc wi g tt te vs σ H Q :=
  h F H Ξ σ w e _ fun J items F1 O1 H1 e1 w1 wk ⟨W, h0, hz, hd, hs⟩ => by
    intro p hp
    have hw : Wd K T F1 ((p, .ls []) :: (O1 ++ Ξ)) (upd H1 p (.lst [])) := w1.newO (c := .ls []) hp rfl ⟨[], upd_same, rfl⟩
    refine ⟨fun i m H' => i + m = items.length ∧ ∃ acc O' F', Ex F1 F' ∧ Wd K T F' ((p, .ls acc) :: (O' ++ Ξ)) H' ∧ W i acc O', ⟨items.length, by omega, [], O1, F1, Ex.refl F1, hw, h0⟩, ?_⟩
    rintro i m H' ⟨him, acc, O', F', e2, w2, hW⟩
    obtain ⟨hstop, hgo⟩ := wk F' _ H' e2 w2
    cases hq : items[i]? with
    | none =>
      have : items.length ≤ i := List.getElem?_eq_none_iff.mp hq
      have : i = items.length := by omega
      subst this
      exact .inl ⟨hstop, hd p acc F' O' H' Ξ Q hW w2 (q p acc O' F' H' (e1.trans e2) w2)⟩
    | some x =>
      obtain ⟨g1, g2⟩ := hgo i x hq
      have hi : i < items.length := (List.getElem?_eq_some_iff.mp hq).1
      refine .inr ⟨g1, fun H3 => ∃ m', m' < m ∧ (i + 1 + m' = items.length ∧ ∃ acc O' F', Ex F1 F' ∧ Wd K T F' ((p, .ls acc) :: (O' ++ Ξ)) H3 ∧ W (i + 1) acc O'), fun H3 z => z, fun y H3 hy => ?_⟩
      obtain ⟨F2, e3, w3, r3⟩ := g2 y H3 hy
      have w3' : Wd K T F2 (O' ++ ((p, .ls acc) :: Ξ)) H3 := w3.perm List.perm_middle.symm
      refine gi _ _ _ _ _ (wipe_sub fun u hu => hu) (hs i x acc O' hW hq F2 H3 ((p, .ls acc) :: Ξ) _ y w3' (((e.mono e1).mono (e2.trans e3)).wipe vs) r3 _ fun ρ2 σ2 F4 O4 H4 e4 w4 v4 hb => ?_)
      have e14 : Ex F1 F4 := e2.trans (e3.trans e4)
      refine hb F4 H4 ((p, .ls acc) :: Ξ) σ2 w4 v4 _ fun b F5 O5 H5 e5 w5 hb5 => ?_
      cases b with
      | false =>
        rw [if_neg Bool.false_ne_true] at hb5 ⊢
        exact ⟨m - 1, by omega, by omega, acc, O5, F5, e14.trans e5, w5.perm List.perm_middle, hb5⟩
      | true =>
        rw [if_pos rfl] at hb5 ⊢
        refine hb5 F5 H5 ((p, .ls acc) :: Ξ) σ2 w5 (v4.mono e5) _ fun z s F6 O6 H6 e6 w6 r6 ⟨dy, hsd, hl, hW6⟩ => ?_
        subst hsd
        have w6' : Wd K T F6 ((p, .ls acc) :: (O6 ++ Ξ)) H6 := w6.perm List.perm_middle
        obtain ⟨us, hu, ru⟩ := w6'.own _ List.mem_cons_self
        refine ⟨us, hu, by rw [ru.length]; omega, m - 1, by omega, by omega, acc ++ [dy], O6, F6, e14.trans (e5.trans e6), ?_, hW6⟩
        exact w6'.write (c' := .ls (acc ++ [dy])) rfl rfl (fun ps z => by rw [hu] at z; cases z) ⟨us ++ [z], upd_same, ru.append (.one r6)⟩
/-- [.. for .. in ..], read from here on -/
theorem re_lc {wi : TI} {g : TG} {tt : TT} {te : TE} {vs : List Nat} {ρ : Rho} {O : Own} {P : PV} (gi : GIn g vs) (h : RunI K T wi ρ O fun items O1 => ∃ W : Nat → List D → Own → Prop, W 0 [] O1 ∧ items.length < sizeLine ∧
    (∀ acc O', W items.length acc O' → P (.d (.lst acc)) O') ∧
    ∀ i d acc O', W i acc O' → items[i]? = some d → RunG K T g d (wipeR ρ vs) O' fun ρ2 O2 => RunT K T tt ρ2 O2 fun b O3 => if b = true then RunE K T te ρ2 O3 fun s O4 => ∃ y, s = .d y ∧ acc.length ≤ i ∧ W (i + 1) (acc ++ [y]) O4 else W (i + 1) acc O3) :
    RunE K T (tLc wi g tt te vs) ρ O P := fun F H Ξ σ w e Q q =>
  lc_gen (PQ := fun p acc O' F' H' Ξ Q => P (.d (.lst acc)) O' → ∀ vs, Wd K T (upd F' p (.lst vs)) (O' ++ Ξ) H' → Ex F' (upd F' p (.lst vs)) → Rp K (upd F' p (.lst vs)) (.lst acc) (.ref p) → Q (.ref p) H') gi
    (fun F H Ξ σ w e R r => h F H Ξ σ w e R fun J items F' O' H' e1 w1 wk ⟨W, h0, hz, hd, hs⟩ => r J items F' O' H' e1 w1 wk ⟨W, h0, hz, fun p acc F' O' H' Ξ Q hW w k => by
      obtain ⟨us, w2, e2, r2⟩ := w.freeze
      exact k (hd acc O' hW) us w2 e2 r2, hs⟩) w e Q fun p acc O' F' H' e1 w1 hP us w2 e2 r2 => q (.ref p) (.d (.lst acc)) _ O' H' (e1.trans e2) w2 r2 hP
/-- [.. for .. in ..], written later -/
theorem re_lcO {wi : TI} {g : TG} {tt : TT} {te : TE} {vs : List Nat} {ρ : Rho} {O : Own} {P : PV} (gi : GIn g vs) (h : RunI K T wi ρ O fun items O1 => ∃ W : Nat → List D → Own → Prop, W 0 [] O1 ∧ items.length < sizeLine ∧
    (∀ p acc O', W items.length acc O' → P (.o p) ((p, .ls acc) :: O')) ∧
    ∀ i d acc O', W i acc O' → items[i]? = some d → RunG K T g d (wipeR ρ vs) O' fun ρ2 O2 => RunT K T tt ρ2 O2 fun b O3 => if b = true then RunE K T te ρ2 O3 fun s O4 => ∃ y, s = .d y ∧ acc.length ≤ i ∧ W (i + 1) (acc ++ [y]) O4 else W (i + 1) acc O3) :
    RunE K T (tLc wi g tt te vs) ρ O P := fun F H Ξ σ w e Q q =>
  lc_gen (PQ := fun p acc O' F' H' Ξ Q => P (.o p) ((p, .ls acc) :: O') → Q (.ref p) H') gi
    (fun F H Ξ σ w e R r => h F H Ξ σ w e R fun J items F' O' H' e1 w1 wk ⟨W, h0, hz, hd, hs⟩ => r J items F' O' H' e1 w1 wk ⟨W, h0, hz, fun p acc F' O' H' Ξ Q hW w k => k (hd p acc O' hW), hs⟩) w e Q fun p acc O' F' H' e1 w1 hP => q (.ref p) (.o p) F' _ H' e1 w1 rfl hP
/-! ### all(..), any(..) of a generator expression -/
def gR (own : List Str) (cp : List (Str × Nat)) (ρ : Rho) : Rho := own.map (fun _ => .u) ++ cp.map fun p => (ρ[p.2]?).getD .u
theorem Env.one {F : Hp} {ρ : Rho} {σ : L2.St} (h : Env K F ρ σ) (i : Nat) : SlO K F ((ρ[i]?).getD .u) ((σ[i]?).getD none) := by
  cases q : ρ[i]? with
  | none => trivial
  | some s =>
    show SlO K F s _
    cases s with
    | u => trivial
    | d x => obtain ⟨v, h1, h2⟩ := h.get q (by intro z; cases z); rw [h1]; exact ⟨v, rfl, h2⟩
    | o a => obtain ⟨v, h1, h2⟩ := h.get q (by intro z; cases z); rw [h1]; exact ⟨v, rfl, h2⟩
theorem Env.caps {F : Hp} {ρ : Rho} {σ : L2.St} (h : Env K F ρ σ) : ∀ cp : List (Str × Nat), Env K F (cp.map fun p => (ρ[p.2]?).getD .u) (cp.map fun p => (σ[p.2]?).getD none)
  | [] => rfl
  | p :: cp => ⟨_, _, rfl, h.one p.2, Env.caps h cp⟩
theorem Env.blank {F : Hp} : ∀ own : List Str, Env K F (own.map fun _ => Sl.u) (own.map fun _ => (none : Option V))
  | [] => rfl
  | _ :: own => ⟨_, _, rfl, trivial, Env.blank own⟩
theorem Env.gS {F : Hp} {ρ : Rho} {σ : L2.St} (h : Env K F ρ σ) (own : List Str) (cp : List (Str × Nat)) : Env K F (gR own cp ρ) (Gx.gS own cp σ) := (Env.blank own).append (h.caps cp)
theorem wipe_gS {own : List Str} {cp : List (Str × Nat)} {σ : L2.St} : ∀ us : List Nat, (∀ u ∈ us, u < own.length) → L2.wipe (Gx.gS own cp σ) us = Gx.gS own cp σ
  | [], _ => rfl
  | u :: us, h => by
    show (L2.wipe (Gx.gS own cp σ) us).set u none = _
    rw [wipe_gS us fun x hx => h x (List.mem_cons_of_mem _ hx)]
    have hu := h u List.mem_cons_self
    unfold Gx.gS
    rw [List.set_append_left _ _ (by simpa using hu)]
    congr 1
    have : ∀ (own : List Str) (u : Nat), (own.map fun _ => (none : Option V)).set u none = own.map fun _ => none := by
      intro own
      induction own with
      | nil => intro u; rfl
      | cons x xs ih => intro u; cases u <;> simp [ih]
    exact this own u
theorem re_gen {q : Bool} {P : Addr} {own : List Str} {cp : List (Str × Nat)} {wi : TI} {g : TG} {tt : TT} {te : TE} {ρ : Rho} {O : Own} {Pv : PV} (hP : P ∈ T) (gi : GIn g (List.range own.length)) (h : RunI K T wi ρ O fun items O1 => ∃ W : Nat → Own → Prop, W 0 O1 ∧
    (∀ O', W items.length O' → Pv (.d (.bl q)) O') ∧
    ∀ i d O', W i O' → items[i]? = some d → RunG K T g d (gR own cp ρ) O' fun ρ2 O2 => RunT K T tt ρ2 O2 fun b O3 => if b = true then RunE K T te ρ2 O3 fun s O4 => ∃ k, s = .d (.bl k) ∧ if k = q then W (i + 1) O4 else Pv (.d (.bl (!q))) O4 else W (i + 1) O3) :
    RunE K T (fun σ H Q => Gx.tGen P own cp wi g tt te (fun _ y H Nx => ∃ k, y = .bl k ∧ if k = q then Nx H else Q (.bl (!q)) H) (fun _ H => Q (.bl q) H) σ H) ρ O Pv := fun F H Ξ σ w e Q hq =>
  h F H Ξ σ w e _ fun J items F1 O1 H1 e1 w1 wk ⟨W, h0, hd, hs⟩ => by
    refine ⟨(w1.tab P hP).1, fun H2 ht => ?_⟩
    have w2 := w1.tabbed hP ht
    refine ⟨fun i m j H' => i + m = items.length ∧ ∃ O' F', Ex F1 F' ∧ Wd K T F' (O' ++ Ξ) H' ∧ W i O', ⟨items.length, by omega, O1, F1, Ex.refl F1, w2, h0⟩, ?_⟩
    rintro i m j H' ⟨him, O', F', e2, w3, hW⟩
    obtain ⟨hstop, hgo⟩ := wk F' _ H' e2 w3
    cases hx : items[i]? with
    | none =>
      have : items.length ≤ i := List.getElem?_eq_none_iff.mp hx
      have : i = items.length := by omega
      subst this
      exact .inl ⟨hstop, hq (.bl q) (.d (.bl q)) F' O' H' (e1.trans e2) w3 rfl (hd O' hW)⟩
    | some x =>
      obtain ⟨g1, g2⟩ := hgo i x hx
      have hi : i < items.length := (List.getElem?_eq_some_iff.mp hx).1
      refine .inr ⟨g1, fun j' H3 => ∃ m', m' < m ∧ (i + 1 + m' = items.length ∧ ∃ O' F', Ex F1 F' ∧ Wd K T F' (O' ++ Ξ) H3 ∧ W (i + 1) O'), fun j' H3 z => z, fun y H3 hy => ?_⟩
      obtain ⟨F2, e3, w4, r3⟩ := g2 y H3 hy
      have e13 : Ex F1 F2 := e2.trans e3
      refine gi _ _ _ _ _ (wipe_gS _ fun u hu => List.mem_range.mp hu) (hs i x O' hW hx F2 H3 Ξ _ y w4 ((e.mono (e1.trans e13)).gS own cp) r3 _ fun ρ2 σ2 F4 O4 H4 e4 w5 v4 hb => ?_)
      refine hb F4 H4 Ξ σ2 w5 v4 _ fun b F5 O5 H5 e5 w6 hb5 => ?_
      have e15 : Ex F1 F5 := e13.trans (e4.trans e5)
      cases b with
      | false =>
        rw [if_neg Bool.false_ne_true] at hb5 ⊢
        exact ⟨m - 1, by omega, by omega, O5, F5, e15, w6, hb5⟩
      | true =>
        rw [if_pos rfl] at hb5 ⊢
        refine hb5 F5 H5 Ξ σ2 w6 (v4.mono e5) _ fun z s F6 O6 H6 e6 w7 r6 ⟨k, hk, hW6⟩ => ?_
        subst hk
        refine ⟨k, r6, ?_⟩
        by_cases hkq : k = q
        · rw [if_pos hkq] at hW6 ⊢
          exact ⟨m - 1, by omega, by omega, O6, F6, e15.trans e6, w7, hW6⟩
        · rw [if_neg hkq] at hW6 ⊢
          exact hq (.bl (!q)) (.d (.bl (!q))) F6 O6 H6 (e1.trans (e15.trans e6)) w7 rfl hW6
theorem tGen_mono {P : Addr} {own : List Str} {cp : List (Str × Nat)} {wi : TI} {g : TG} {tt : TT} {te : TE} {c c' : Gx.Cons} {Qe : Nat → Hp → Prop} {σ : L2.St} {H : Hp} (hc : c = c') (h : Gx.tGen P own cp wi g tt te c Qe σ H) : Gx.tGen P own cp wi g tt te c' Qe σ H := hc ▸ h
theorem re_allG {P : Addr} {own : List Str} {cp : List (Str × Nat)} {wi : TI} {g : TG} {tt : TT} {te : TE} {ρ : Rho} {O : Own} {Pv : PV} (hP : P ∈ T) (gi : GIn g (List.range own.length)) (h : RunI K T wi ρ O fun items O1 => ∃ W : Nat → Own → Prop, W 0 O1 ∧
    (∀ O', W items.length O' → Pv (.d (.bl true)) O') ∧
    ∀ i d O', W i O' → items[i]? = some d → RunG K T g d (gR own cp ρ) O' fun ρ2 O2 => RunT K T tt ρ2 O2 fun b O3 => if b = true then RunE K T te ρ2 O3 fun s O4 => ∃ k, s = .d (.bl k) ∧ if k = true then W (i + 1) O4 else Pv (.d (.bl false)) O4 else W (i + 1) O3) :
    RunE K T (Gx.tAllG P own cp wi g tt te) ρ O Pv := re_gen (q := true) hP gi h
theorem re_anyG {P : Addr} {own : List Str} {cp : List (Str × Nat)} {wi : TI} {g : TG} {tt : TT} {te : TE} {ρ : Rho} {O : Own} {Pv : PV} (hP : P ∈ T) (gi : GIn g (List.range own.length)) (h : RunI K T wi ρ O fun items O1 => ∃ W : Nat → Own → Prop, W 0 O1 ∧
    (∀ O', W items.length O' → Pv (.d (.bl false)) O') ∧
    ∀ i d O', W i O' → items[i]? = some d → RunG K T g d (gR own cp ρ) O' fun ρ2 O2 => RunT K T tt ρ2 O2 fun b O3 => if b = true then RunE K T te ρ2 O3 fun s O4 => ∃ k, s = .d (.bl k) ∧ if k = true then Pv (.d (.bl true)) O4 else W (i + 1) O4 else W (i + 1) O3) :
    RunE K T (Gx.tAnyG P own cp wi g tt te) ρ O Pv := by
  have z := re_gen (K := K) (T := T) (q := false) (P := P) (own := own) (cp := cp) (wi := wi) (g := g) (tt := tt) (te := te) (ρ := ρ) (O := O) (Pv := Pv) hP gi (fun F H Ξ σ w e R r => h F H Ξ σ w e R fun J items F' O' H' e1 w1 wk ⟨W, h0, hd, hs⟩ => r J items F' O' H' e1 w1 wk ⟨W, h0, hd, fun i d O' hW hx F H Ξ σ v w e rd Q q => hs i d O' hW hx F H Ξ σ v w e rd Q fun ρ' σ' F' O' H' a b c hh => q ρ' σ' F' O' H' a b c fun F H Ξ σ w e Q q => hh F H Ξ σ w e Q fun b F' O' H' e1 w1 h1 => q b F' O' H' e1 w1 (by
      cases b with
      | false => exact h1
      | true =>
        rw [if_pos rfl] at h1 ⊢
        exact re_imp h1 fun s O4 ⟨k, hk, hh⟩ => ⟨k, hk, by cases k <;> simpa using hh⟩)⟩)
  intro F H Ξ σ w e Q q
  refine tGen_mono ?_ (z F H Ξ σ w e Q q)
  funext j y H Nx
  refine propext ⟨fun ⟨k, hk, h⟩ => ⟨k, hk, by cases k <;> simpa using h⟩, fun ⟨k, hk, h⟩ => ⟨k, hk, by cases k <;> simpa using h⟩⟩
end Al
end
section
set_option Elab.async false
set_option linter.all false
set_option maxRecDepth 100000
set_option maxHeartbeats 2000000
/-! ==, !=, in, subscripts, slices, len, isinstance on data. -/
namespace Al
open PySem PySem.Spec PyProof.Rows L2
variable {K : PySem.W.Frag} {T : List Addr}
theorem op_neNil {X : Cx} (hu : X.A.units + 64 < cLine) : OpR X (compareOp .NotEq) (rNil X.K (!·)) := by
  intro pins s σ H x y v u Q I rx ry h
  obtain ⟨a, b, xs, rfl, rfl, h, q⟩ := h
  cases rx
  cases ry
  rcases h with ⟨h1, h2⟩ | ⟨h1, h2⟩
  · obtain ⟨i1, r1, t1, z1⟩ := I.tuple h1
    obtain ⟨i2, r2, t2, z2⟩ := I.tuple h2
    have e2 : i2 = [] := List.eq_nil_of_length_eq_zero (by rw [← r2.length]; rfl)
    subst e2
    refine SeqAt.RcNeAt.tuples (e := fun _ => true) t1 t2 (by omega) (fun j h1 h2 => by simp at h2) _ _ _ _ ?_
    refine ⟨.bl (!xs.isEmpty), H, I, ?_, q⟩
    have e : xs.isEmpty = i1.isEmpty := by cases xs <;> cases i1 <;> first | rfl | (have := r1.length; simp at this)
    rw [e]
    show Value.bool _ = Value.bool _
    cases i1 <;> simp
  · obtain ⟨i1, r1, t1, z1⟩ := I.list h1
    obtain ⟨i2, r2, t2, z2⟩ := I.list h2
    have e2 : i2 = [] := List.eq_nil_of_length_eq_zero (by rw [← r2.length]; rfl)
    subst e2
    cases xs with
    | nil =>
      have e1 : i1 = [] := List.eq_nil_of_length_eq_zero (by rw [← r1.length]; rfl)
      subst e1
      exact SeqAt.RcNeAt.lists (e := fun _ => true) t1.isList t2.isList rfl (by omega) (fun j h1 h2 => by simp at h2) _ _ _ _ ⟨.bl false, H, I, rfl, q⟩
    | cons x xs =>
      cases i1 with
      | nil => have := r1.length; simp at this
      | cons i1 is => exact SeqAt.RcNeAt.lists_lengths t1.isList t2.isList (by simp) (by omega) _ _ _ _ ⟨.bl true, H, I, rfl, q⟩
theorem op_neA {X : Cx} (hu : X.A.units + 64 < cLine) : OpR X (compareOp .NotEq) (rNeA X.K) := op_ne.or ((op_neNil hu).or (op_neD hu))
theorem rr_eq {n m : Nat} {x y : D} {O : Own} {P : PV} (hx : plain n x = true) (hy : plain m y = true) (hn : n ≤ 64) (hm : m ≤ 64) (p : P (.d (.bl (eqD x y))) O) : RunR K T (rEqA K) (.d x) (.d y) O P := fun F H Ξ vx vy w rx ry Q q =>
  .inr (.inr ⟨pd x, pd y, dp_of w.ex n x vx hx rx, dp_of w.ex m y vy hy ry, shaped_pd hx hn, shaped_pd hy hm, q _ (.d (.bl (eqD x y))) F O H (Ex.refl F) w (show V.bl _ = _ by rw [eqv_pd n m x y hx hy]) p⟩)
theorem rr_ne {n m : Nat} {x y : D} {O : Own} {P : PV} (hx : plain n x = true) (hy : plain m y = true) (hn : n ≤ 64) (hm : m ≤ 64) (p : P (.d (.bl (!eqD x y))) O) : RunR K T (rNeA K) (.d x) (.d y) O P := fun F H Ξ vx vy w rx ry Q q =>
  .inr (.inr ⟨pd x, pd y, dp_of w.ex n x vx hx rx, dp_of w.ex m y vy hy ry, shaped_pd hx hn, shaped_pd hy hm, q _ (.d (.bl (!eqD x y))) F O H (Ex.refl F) w (show V.bl _ = _ by rw [eqv_pd n m x y hx hy]) p⟩)
/-- flat data -/
def flatD : D → Bool
  | .non => true | .bl _ => true | .int _ => true | .str _ => true | _ => false
def toV : D → V
  | .bl b => .bl b | .int i => .int i | .str x => .str x | _ => .non
theorem flat_rp {F : Hp} {d : D} {v : V} (h : flatD d = true) (r : Rp K F d v) : v = toV d := by
  cases d <;> first | exact r | cases h
theorem flat_V {d : D} (h : flatD d = true) : flatV (toV d) = true := by cases d <;> first | rfl | cases h
/-- the same kind of flat data -/
def scalD : D → D → Bool
  | .int _, .int _ => true | .bl _, .bl _ => true | .str _, .str _ => true | .non, .non => true | .int _, .str _ => true | .str _, .int _ => true | .non, .str _ => true | .str _, .non => true | .non, .int _ => true | .int _, .non => true
  | .bl _, .str _ => true | .str _, .bl _ => true | .bl _, .non => true | .non, .bl _ => true
  | _, _ => false
theorem scal_eq {F : Hp} {x y : D} {vx vy : V} (h : scalD x y = true) (rx : Rp K F x vx) (ry : Rp K F y vy) : scal vx vy = true ∧ decide (vx = vy) = eqD x y := by
  cases x <;> cases y <;> first | cases h | skip
  all_goals (have rx : vx = _ := rx; have ry : vy = _ := ry; subst rx ry; refine ⟨rfl, ?_⟩; simp [eqD])
  all_goals first | rfl | (rw [Bool.eq_iff_iff]; simp)
theorem rr_eqF {x y : D} {O : Own} {P : PV} (h : scalD x y = true) (p : P (.d (.bl (eqD x y))) O) : RunR K T (rEqA K) (.d x) (.d y) O P := fun F H Ξ vx vy w rx ry Q q => by
  obtain ⟨h1, h2⟩ := scal_eq h rx ry
  exact .inl ⟨h1, q _ (.d (.bl (eqD x y))) F O H (Ex.refl F) w (show V.bl _ = _ by rw [h2]) p⟩
theorem rr_neF {x y : D} {O : Own} {P : PV} (h : scalD x y = true) (p : P (.d (.bl (!eqD x y))) O) : RunR K T (rNeA K) (.d x) (.d y) O P := fun F H Ξ vx vy w rx ry Q q => by
  obtain ⟨h1, h2⟩ := scal_eq h rx ry
  exact .inl ⟨h1, q _ (.d (.bl (!eqD x y))) F O H (Ex.refl F) w (show V.bl _ = _ by rw [h2]) p⟩
theorem isEmpty_len {l : List D} {vs : List V} (h : vs.length = l.length) : vs.isEmpty = l.isEmpty := by cases l <;> cases vs <;> first | rfl | simp at h
theorem nil_get {F H : Hp} {l : List D} {O : Own} {b : Bool} (f : Bool → Bool) {vx vy : V} (w : Wd K T F O H) (h : ∃ a xs, vx = .ref a ∧ xs.length = l.length ∧ ((∃ c, vy = .ref c ∧ SqT K H c [] ∧ SqT K H a xs) ∨ (∃ c, vy = .ref c ∧ SqL K H c [] ∧ SqL K H a xs))) {Q : VK} (q : Q (.bl (f l.isEmpty)) H) : rNil K f vx vy H Q := by
  obtain ⟨a, xs, rfl, hl, ⟨c, rfl, h1, h2⟩ | ⟨c, rfl, h1, h2⟩⟩ := h
  · exact ⟨a, c, xs, rfl, rfl, .inl ⟨h2, h1⟩, by rw [isEmpty_len hl]; exact q⟩
  · exact ⟨a, c, xs, rfl, rfl, .inr ⟨h2, h1⟩, by rw [isEmpty_len hl]; exact q⟩
theorem nilT {F H : Hp} {l : List D} {vx vy : V} {O : Own} (w : Wd K T F O H) (rx : Rp K F (.tup l) vx) (ry : Rp K F (.tup []) vy) : ∃ a xs, vx = .ref a ∧ xs.length = l.length ∧ ((∃ c, vy = .ref c ∧ SqT K H c [] ∧ SqT K H a xs) ∨ (∃ c, vy = .ref c ∧ SqL K H c [] ∧ SqL K H a xs)) := by
  obtain ⟨a, xs, rfl, h1, h2⟩ := rx
  obtain ⟨c, ys, rfl, h3, h4⟩ := ry
  have h4 : ys = [] := h4
  subst h4
  exact ⟨a, xs, rfl, h2.length, .inl ⟨c, rfl, w.ex.seqT h3, w.ex.seqT h1⟩⟩
theorem nilL {F H : Hp} {l : List D} {vx vy : V} {O : Own} (w : Wd K T F O H) (rx : Rp K F (.lst l) vx) (ry : Rp K F (.lst []) vy) : ∃ a xs, vx = .ref a ∧ xs.length = l.length ∧ ((∃ c, vy = .ref c ∧ SqT K H c [] ∧ SqT K H a xs) ∨ (∃ c, vy = .ref c ∧ SqL K H c [] ∧ SqL K H a xs)) := by
  obtain ⟨a, xs, rfl, h1, h2⟩ := rx
  obtain ⟨c, ys, rfl, h3, h4⟩ := ry
  have h4 : ys = [] := h4
  subst h4
  exact ⟨a, xs, rfl, h2.length, .inr ⟨c, rfl, .of (w.ex _ _ h3), .of (w.ex _ _ h1)⟩⟩
theorem rr_eqT0 {l : List D} {O : Own} {P : PV} (p : P (.d (.bl l.isEmpty)) O) : RunR K T (rEqA K) (.d (.tup l)) (.d (.tup [])) O P := fun F H Ξ vx vy w rx ry Q q =>
  .inr (.inl (nil_get (b := true) id w (nilT w rx ry) (q _ (.d (.bl l.isEmpty)) F O H (Ex.refl F) w rfl p)))
theorem rr_neT0 {l : List D} {O : Own} {P : PV} (p : P (.d (.bl (!l.isEmpty))) O) : RunR K T (rNeA K) (.d (.tup l)) (.d (.tup [])) O P := fun F H Ξ vx vy w rx ry Q q =>
  .inr (.inl (nil_get (b := true) (!·) w (nilT w rx ry) (q _ (.d (.bl (!l.isEmpty))) F O H (Ex.refl F) w rfl p)))
theorem rr_eqL0 {l : List D} {O : Own} {P : PV} (p : P (.d (.bl l.isEmpty)) O) : RunR K T (rEqA K) (.d (.lst l)) (.d (.lst [])) O P := fun F H Ξ vx vy w rx ry Q q =>
  .inr (.inl (nil_get (b := true) id w (nilL w rx ry) (q _ (.d (.bl l.isEmpty)) F O H (Ex.refl F) w rfl p)))
theorem rr_neL0 {l : List D} {O : Own} {P : PV} (p : P (.d (.bl (!l.isEmpty))) O) : RunR K T (rNeA K) (.d (.lst l)) (.d (.lst [])) O P := fun F H Ξ vx vy w rx ry Q q =>
  .inr (.inl (nil_get (b := true) (!·) w (nilL w rx ry) (q _ (.d (.bl (!l.isEmpty))) F O H (Ex.refl F) w rfl p)))
/-- an own list, found in O -/
theorem own_get {F H : Hp} {O Ξ : Own} {p : Addr} {l : List D} (w : Wd K T F (O ++ Ξ) H) (h : (p, C.ls l) ∈ O) : ∃ vs, H p = some (.lst vs) ∧ RpL K F l vs := w.own _ (List.mem_append_left _ h)
theorem nilO {F H : Hp} {l : List D} {vx vy : V} {O Ξ : Own} {p : Addr} (w : Wd K T F (O ++ Ξ) H) (h : (p, C.ls l) ∈ O) (rx : SlV K F (.o p) vx) (ry : Rp K F (.lst []) vy) : ∃ a xs, vx = .ref a ∧ xs.length = l.length ∧ ((∃ c, vy = .ref c ∧ SqT K H c [] ∧ SqT K H a xs) ∨ (∃ c, vy = .ref c ∧ SqL K H c [] ∧ SqL K H a xs)) := by
  obtain ⟨vs, h1, h2⟩ := own_get w h
  obtain ⟨c, ys, rfl, h3, h4⟩ := ry
  have h4 : ys = [] := h4
  subst h4
  exact ⟨p, vs, rx, h2.length, .inr ⟨c, rfl, .of (w.ex _ _ h3), .of h1⟩⟩
theorem rr_eqO0 {l : List D} {p : Addr} {O : Own} {P : PV} (h : (p, C.ls l) ∈ O) (pp : P (.d (.bl l.isEmpty)) O) : RunR K T (rEqA K) (.o p) (.d (.lst [])) O P := fun F H Ξ vx vy w rx ry Q q =>
  .inr (.inl (nil_get (b := true) id w (nilO w h rx ry) (q _ (.d (.bl l.isEmpty)) F O H (Ex.refl F) w rfl pp)))
theorem rr_neO0 {l : List D} {p : Addr} {O : Own} {P : PV} (h : (p, C.ls l) ∈ O) (pp : P (.d (.bl (!l.isEmpty))) O) : RunR K T (rNeA K) (.o p) (.d (.lst [])) O P := fun F H Ξ vx vy w rx ry Q q =>
  .inr (.inl (nil_get (b := true) (!·) w (nilO w h rx ry) (q _ (.d (.bl (!l.isEmpty))) F O H (Ex.refl F) w rfl pp)))

/-! ### in, not in: flat things in a list or a tuple; texts in texts -/
def inD (x : D) (l : List D) : Bool := l.any fun y => eqV (toV y) (toV x)
theorem flat_all {F : Hp} : ∀ {l : List D} {vs : List V}, RpL K F l vs → l.all flatD = true → vs.all flatV = true ∧ ∀ x : V, inV x vs = l.any fun y => eqV (toV y) x
  | [], vs, h, _ => by rw [show vs = [] from h]; exact ⟨rfl, fun _ => rfl⟩
  | d :: l, vs, h, ha => by
    obtain ⟨v, r, rfl, h2, h3⟩ := h
    rw [List.all_cons, Bool.and_eq_true] at ha
    obtain ⟨h4, h5⟩ := flat_all h3 ha.2
    have hv := flat_rp ha.1 h2
    refine ⟨by rw [List.all_cons, h4, hv, flat_V ha.1]; rfl, fun x => ?_⟩
    show (eqV v x || inV x r) = _
    rw [h5 x, hv]
    rfl
abbrev rInS : R2 := fun x y H Q => ∃ i j, x = .str i ∧ y = .str j ∧ Q (.bl (!(Builtin.Str.occurrences j i 0 j.length 1).isEmpty)) H
theorem rr_in {neg : Bool} {x y : D} {l : List D} {O : Own} {P : PV} (hx : flatD x = true) (hy : itemsOf y = some l) (hl : l.all flatD = true) (p : P (.d (.bl (if neg then !inD x l else inD x l))) O) : RunR K T (rIn K neg) (.d x) (.d y) O P := fun F H Ξ vx vy w rx ry Q q => by
  obtain ⟨a, vs, rfl, hr, hq⟩ := seq_of hy ry
  obtain ⟨h1, h2⟩ := flat_all hr hl
  have hv := flat_rp hx rx
  subst hv
  refine ⟨a, vs, rfl, hq.elim (fun h => .inl (w.ex.seqL h)) fun h => .inr (w.ex.seqT h), flat_V hx, h1, ?_⟩
  rw [h2]
  exact q _ (.d (.bl (if neg then !inD x l else inD x l))) F O H (Ex.refl F) w rfl p
/-- a sign in a text -/
theorem rr_inSign {c : Nat} {z : Str} {O : Own} {P : PV} (p : P (.d (.bl (decide (c ∈ z.cps.toList)))) O) : RunR K T (fun x y H Q => ∃ (c : Nat) (z : Str), x = .str ⟨#[c]⟩ ∧ y = .str z ∧ Q (.bl (decide (c ∈ z.cps.toList))) H) (.d (.str ⟨#[c]⟩)) (.d (.str z)) O P := fun F H Ξ vx vy w rx ry Q q =>
  ⟨c, z, rx, ry, q _ (.d (.bl _)) F O H (Ex.refl F) w rfl p⟩

/-! ### subscripts -/
theorem atI_rp {F : Hp} {l : List D} {vs : List V} {i : Int} {x : D} (r : RpL K F l vs) (h : atI l i = some x) : ∃ v, atI vs i = some v ∧ Rp K F x v := by
  unfold atI at h ⊢
  rw [r.length]
  obtain ⟨j, h1, h2⟩ := Option.bind_eq_some_iff.mp h
  obtain ⟨v, h3, h4⟩ := r.get h2
  exact ⟨v, by rw [h1]; exact h3, h4⟩
theorem rr_ix {y : D} {l : List D} {i : Int} {x : D} {O : Own} {P : PV} (hy : itemsOf y = some l) (h : atI l i = some x) (p : P (.d x) O) : RunR K T (rIx K) (.d y) (.d (.int i)) O P := fun F H Ξ vx vy w rx ry Q q => by
  obtain ⟨a, vs, rfl, hr, hq⟩ := seq_of hy rx
  obtain ⟨v, h1, h2⟩ := atI_rp hr h
  have hv : vy = .int i := ry
  subst hv
  rcases hq with hq | hq
  · exact .inl ⟨a, vs, i, v, rfl, rfl, w.ex.seqL hq, h1, q v (.d x) F O H (Ex.refl F) w h2 p⟩
  · exact .inr (.inl ⟨a, vs, i, v, rfl, rfl, w.ex.seqT hq, h1, q v (.d x) F O H (Ex.refl F) w h2 p⟩)
theorem rr_ixO {pp : Addr} {l : List D} {i : Int} {x : D} {O : Own} {P : PV} (hO : (pp, C.ls l) ∈ O) (h : atI l i = some x) (p : P (.d x) O) : RunR K T (rIx K) (.o pp) (.d (.int i)) O P := fun F H Ξ vx vy w rx ry Q q => by
  obtain ⟨vs, h1, h2⟩ := own_get w hO
  obtain ⟨v, h3, h4⟩ := atI_rp h2 h
  have hx : vx = .ref pp := rx
  have hv : vy = .int i := ry
  subst hx hv
  exact .inl ⟨pp, vs, i, v, rfl, rfl, .of h1, h3, q v (.d x) F O H (Ex.refl F) w h4 p⟩
theorem rr_ixS {z : Str} {i : Int} {c : Nat} {O : Own} {P : PV} (hz : z.length ≤ sizeLine) (h : atI z.cps.toList i = some c) (p : P (.d (.str ⟨#[c]⟩)) O) : RunR K T (rIx K) (.d (.str z)) (.d (.int i)) O P := fun F H Ξ vx vy w rx ry Q q =>
  .inr (.inr ⟨z, i, c, rx, ry, hz, h, q _ (.d (.str ⟨#[c]⟩)) F O H (Ex.refl F) w rfl p⟩)

/-! ### slices -/
def cutD (xs : List D) (lo hi : Option Int) : List D := (xs.drop (HT.sIx xs.length 0 lo)).take (HT.sIx xs.length xs.length hi - HT.sIx xs.length 0 lo)
abbrev rSl (K : PySem.W.Frag) : V → Option Int → Option Int → Hp → VK → Prop := fun x lo hi H Q => rSlA K x lo hi H Q ∨ (rSlL K x lo hi H Q ∨ rSlS x lo hi H Q)
theorem sl_any {X : Cx} : SlR X (rSl X.K) := sl_tupA.or (sl_list.or sl_str)
def RunO (K : PySem.W.Frag) (T : List Addr) (to : TO) (ρ : Rho) (O : Own) (P : Option Int → Own → Prop) : Prop := ∀ (F H : Hp) (Ξ : Own) (σ : L2.St), Wd K T F (O ++ Ξ) H → Env K F ρ σ →
  ∀ Q : Option Int → Hp → Prop, (∀ o F' O' H', Ex F F' → Wd K T F' (O' ++ Ξ) H' → P o O' → Q o H') → to σ H Q
theorem ro_none {ρ : Rho} {O : Own} {P : Option Int → Own → Prop} (p : P none O) : RunO K T tNoPart ρ O P := fun F H Ξ σ w e Q q => q none F O H (Ex.refl F) w p
theorem ro_some {te : TE} {ρ : Rho} {O : Own} {P : Option Int → Own → Prop} (h : RunE K T te ρ O fun s O1 => ∃ i, s = .d (.int i) ∧ P (some i) O1) : RunO K T (tPart te) ρ O P := fun F H Ξ σ w e Q q =>
  h F H Ξ σ w e _ fun v s F' O' H' e1 w1 r1 ⟨i, hs, p⟩ => by
    subst hs
    exact ⟨i, r1, q (some i) F' O' H' e1 w1 p⟩
theorem cut_rp {F : Hp} {l : List D} {vs : List V} (r : RpL K F l vs) (lo hi : Option Int) : RpL K F (cutD l lo hi) (cutV vs lo hi) := by
  unfold cutD cutV
  rw [r.length]
  exact (r.drop _).take _
theorem re_slT {te : TE} {tl th : TO} {ρ : Rho} {O : Own} {P : PV} (h : RunE K T te ρ O fun s O1 => RunO K T tl ρ O1 fun lo O2 => RunO K T th ρ O2 fun hi O3 => ∃ l, s = .d (.tup l) ∧ P (.d (.tup (cutD l lo hi))) O3) : RunE K T (tSl (rSl K) te tl th) ρ O P := fun F H Ξ σ w e Q q =>
  h F H Ξ σ w e _ fun x s F1 O1 H1 e1 w1 r1 h1 => h1 F1 H1 Ξ σ w1 (e.mono e1) _ fun lo F2 O2 H2 e2 w2 h2 => h2 F2 H2 Ξ σ w2 ((e.mono e1).mono e2) _ fun hi F3 O3 H3 e3 w3 ⟨l, hs, p⟩ => by
    subst hs
    obtain ⟨a, vs, rfl, hq, hr⟩ := r1
    have hr3 := RpL.mono (e2.trans e3) _ _ hr
    refine .inl ⟨a, vs, rfl, w3.ex.seqT ((e2.trans e3).seqT hq), fun ⟨z1, z2⟩ => ?_, fun _ c hc => ?_⟩
    · have : cutD l lo hi = l := by
        unfold cutD
        rw [← hr.length, z1, z2]
        simp [hr.length]
      exact q _ (.d (.tup (cutD l lo hi))) F3 O3 H3 ((e1.trans e2).trans e3) w3 (show Rp K F3 (.tup (cutD l lo hi)) _ by rw [this]; exact ⟨a, vs, rfl, (e2.trans e3).seqT hq, hr3⟩) p
    · have e4 : Ex F3 (upd F3 c (.tup (cutV vs lo hi))) := Ex.new (w3.ex.back hc)
      exact q _ (.d (.tup (cutD l lo hi))) _ O3 _ (((e1.trans e2).trans e3).trans e4) (w3.new hc) (show Rp K _ (.tup (cutD l lo hi)) _ from ⟨c, _, rfl, .inl (.inl upd_same), RpL.mono e4 _ _ (cut_rp hr3 lo hi)⟩) p
theorem re_slL {te : TE} {tl th : TO} {ρ : Rho} {O : Own} {P : PV} (h : RunE K T te ρ O fun s O1 => RunO K T tl ρ O1 fun lo O2 => RunO K T th ρ O2 fun hi O3 => ∃ l, s = .d (.lst l) ∧ P (.d (.lst (cutD l lo hi))) O3) : RunE K T (tSl (rSl K) te tl th) ρ O P := fun F H Ξ σ w e Q q =>
  h F H Ξ σ w e _ fun x s F1 O1 H1 e1 w1 r1 h1 => h1 F1 H1 Ξ σ w1 (e.mono e1) _ fun lo F2 O2 H2 e2 w2 h2 => h2 F2 H2 Ξ σ w2 ((e.mono e1).mono e2) _ fun hi F3 O3 H3 e3 w3 ⟨l, hs, p⟩ => by
    subst hs
    obtain ⟨a, vs, rfl, hq, hr⟩ := r1
    have hr3 := RpL.mono (e2.trans e3) _ _ hr
    refine .inr (.inl ⟨a, vs, rfl, .of (w3.ex _ _ ((e2.trans e3) _ _ hq)), fun c hc => ?_⟩)
    have e4 : Ex F3 (upd F3 c (.lst (cutV vs lo hi))) := Ex.new (w3.ex.back hc)
    exact q _ (.d (.lst (cutD l lo hi))) _ O3 _ (((e1.trans e2).trans e3).trans e4) (w3.new hc) (show Rp K _ (.lst (cutD l lo hi)) _ from ⟨c, _, rfl, upd_same, RpL.mono e4 _ _ (cut_rp hr3 lo hi)⟩) p
theorem re_slS {te : TE} {tl th : TO} {ρ : Rho} {O : Own} {P : PV} (h : RunE K T te ρ O fun s O1 => RunO K T tl ρ O1 fun lo O2 => RunO K T th ρ O2 fun hi O3 => ∃ z, s = .d (.str z) ∧ z.length ≤ sizeLine ∧ P (.d (.str (cutS z lo hi))) O3) : RunE K T (tSl (rSl K) te tl th) ρ O P := fun F H Ξ σ w e Q q =>
  h F H Ξ σ w e _ fun x s F1 O1 H1 e1 w1 r1 h1 => h1 F1 H1 Ξ σ w1 (e.mono e1) _ fun lo F2 O2 H2 e2 w2 h2 => h2 F2 H2 Ξ σ w2 ((e.mono e1).mono e2) _ fun hi F3 O3 H3 e3 w3 ⟨z, hs, hz, p⟩ => by
    subst hs
    exact .inr (.inr ⟨z, r1, hz, q _ (.d (.str (cutS z lo hi))) F3 O3 H3 ((e1.trans e2).trans e3) w3 rfl p⟩)
theorem re_revT {te : TE} {ρ : Rho} {O : Own} {P : PV} (h : RunE K T te ρ O fun s O1 => ∃ l, s = .d (.tup l) ∧ P (.d (.tup l.reverse)) O1) : RunE K T (tRevT K te) ρ O P := fun F H Ξ σ w e Q q =>
  h F H Ξ σ w e _ fun x s F1 O1 H1 e1 w1 r1 ⟨l, hs, p⟩ => by
    subst hs
    obtain ⟨a, vs, rfl, hq, hr⟩ := r1
    refine ⟨a, vs, rfl, w1.ex.seqT hq, fun c hc => ?_⟩
    have e4 : Ex F1 (upd F1 c (.tup vs.reverse)) := Ex.new (w1.ex.back hc)
    exact q _ (.d (.tup l.reverse)) _ O1 _ (e1.trans e4) (w1.new hc) ⟨c, _, rfl, .inl (.inl upd_same), RpL.mono e4 _ _ hr.reverse⟩ p

/-! ### len, isinstance -/
def lenD : D → Option Nat
  | .str z => if z.length ≤ sizeLine then some z.length else none
  | .tup l => some l.length
  | .lst l => some l.length
  | .scr l => some l.length
  | _ => none
abbrev rLen (K : PySem.W.Frag) : List V → Hp → VK → Prop := fun xs H Q => ∃ x n, xs = [x] ∧ LenV K x H n ∧ Q (.int n) H
theorem args1 {F : Hp} {s : Sl} {vs : List V} (h : Args K F [s] vs) : ∃ v, vs = [v] ∧ SlV K F s v := by
  obtain ⟨v, r, rfl, h2, h3⟩ := h
  have h3 : r = [] := h3
  subst h3
  exact ⟨v, rfl, h2⟩
theorem args2 {F : Hp} {s t : Sl} {vs : List V} (h : Args K F [s, t] vs) : ∃ v u, vs = [v, u] ∧ SlV K F s v ∧ SlV K F t u := by
  obtain ⟨v, r, rfl, h2, h3⟩ := h
  obtain ⟨u, rfl, h4⟩ := args1 h3
  exact ⟨v, u, rfl, h2, h4⟩
theorem rc_len {d : D} {n : Nat} {O : Own} {P : PV} (h : lenD d = some n) (p : P (.d (.int n)) O) : RunC K T (rLen K) [.d d] O P := fun F H Ξ vs w r Q q => by
  obtain ⟨v, rfl, rv⟩ := args1 r
  refine ⟨v, n, rfl, ?_, q _ (.d (.int n)) F O H (Ex.refl F) w rfl p⟩
  cases d with
  | str z =>
    have hv : v = .str z := rv
    subst hv
    have h : (if z.length ≤ sizeLine then some z.length else none) = some n := h
    by_cases hz : z.length ≤ sizeLine
    · rw [if_pos hz] at h; exact ⟨hz, (Option.some.inj h).symm⟩
    · rw [if_neg hz] at h; cases h
  | tup l => obtain ⟨a, vs, rfl, h1, h2⟩ := rv; exact .inr ⟨vs, w.ex.seqT h1, by rw [h2.length]; exact (Option.some.inj h).symm⟩
  | lst l => obtain ⟨a, vs, rfl, h1, h2⟩ := rv; exact .inl ⟨vs, .of (w.ex _ _ h1), by rw [h2.length]; exact (Option.some.inj h).symm⟩
  | scr l => obtain ⟨a, vs, rfl, h1, h2⟩ := rv; exact .inl ⟨vs, w.ex.seqL h1, by rw [h2.length]; exact (Option.some.inj h).symm⟩
  | _ => cases h
theorem rc_lenO {pp : Addr} {l : List D} {O : Own} {P : PV} (hO : (pp, C.ls l) ∈ O) (p : P (.d (.int (l.length : Nat))) O) : RunC K T (rLen K) [.o pp] O P := fun F H Ξ vs w r Q q => by
  obtain ⟨v, rfl, rv⟩ := args1 r
  obtain ⟨us, h1, h2⟩ := own_get w hO
  have rv : v = .ref pp := rv
  subst rv
  exact ⟨_, l.length, rfl, .inl ⟨us, .of h1, h2.length.symm⟩, q _ (.d (.int (l.length : Nat))) F O H (Ex.refl F) w rfl p⟩
/-- the built-in type of data -/
def tyD : D → Option String
  | .non => some "NoneType" | .bl _ => some "bool" | .int _ => some "int" | .str _ => some "str" | .tup _ => some "tuple" | .lst _ => some "list" | .dic => some "dict" | .scr _ => some "list" | .raw _ => none
theorem tyX_of {F H : Hp} {d : D} {v : V} {t : String} (e : Ex F H) (h : tyD d = some t) (r : Rp K F d v) : TyX K H v (.type t) := by
  cases d with
  | non => cases h; rw [show v = .non from r]; exact .base .non
  | bl b => cases h; rw [show v = .bl b from r]; exact .base (.bl b)
  | int i => cases h; rw [show v = .int i from r]; exact .base (.int i)
  | str x => cases h; rw [show v = .str x from r]; exact .base (.str x)
  | tup l =>
    cases h
    obtain ⟨a, vs, rfl, h1, h2⟩ := r
    rcases h1 with (h1 | ⟨o, h1⟩) | ⟨o, its, n, h1, h2, _⟩
    · exact .base (.tup (e _ _ h1))
    · exact .fTuple (e _ _ h1)
    · exact .kTuple h1 h2
  | lst l => cases h; obtain ⟨a, vs, rfl, h1, h2⟩ := r; exact .base (.lst (e _ _ h1))
  | scr l =>
    cases h
    obtain ⟨a, vs, rfl, h1, h2⟩ := r
    rcases h1 with (h1 | ⟨o, h1⟩) | ⟨o, its, n, h1, h2, _⟩
    · exact .base (.lst (e _ _ h1))
    · exact .base (.frz (e _ _ h1))
    · exact .kList h1 h2
  | dic => cases h; obtain ⟨a, rfl, h1⟩ := r; exact .base (.dK (e _ _ h1))
  | raw x => cases h
theorem rc_isi {d : D} {n t : String} {b : Bool} {O : Own} {P : PV} (h : tyD d = some t) (k : kitB t n = some b) (p : P (.d (.bl b)) O) : RunC K T (rIsi K) [.d d, .d (.raw (.ty n))] O P := fun F H Ξ vs w r Q q => by
  obtain ⟨v, u, rfl, rv, ru⟩ := args2 r
  have ru : u = .ty n := ru
  subst ru
  exact ⟨v, .ty n, .type t, .type n, b, rfl, .ty n, tyX_of w.ex h rv, kit_ty k, q _ (.d (.bl b)) F O H (Ex.refl F) w rfl p⟩
/-- the answer of isinstance for the five types -/
def isT (n : String) : D → Bool
  | .bl _ => n == "bool" || n == "int"
  | .int _ => n == "int"
  | .str _ => n == "str"
  | .tup _ => n == "tuple"
  | .lst _ => n == "list"
  | .scr _ => n == "list"
  | .dic => n == "dict"
  | _ => false
theorem kit_isT {d : D} {t : String} (h : tyD d = some t) : (∀ n ∈ ["tuple", "str", "int", "bool", "list", "dict"], kitB t n = some (isT n d)) := by
  cases d <;> cases h <;> (intro n hn; simp only [List.mem_cons, List.not_mem_nil, or_false] at hn; rcases hn with rfl | rfl | rfl | rfl | rfl | rfl) <;> (simp only [isT]; decide +kernel)
end Al
end
section
set_option Elab.async false
set_option linter.all false
set_option maxRecDepth 100000
set_option maxHeartbeats 2000000
/-! Built-in calls, methods, stores on data. -/
namespace Al
open PySem PySem.Spec PyProof.Rows L2
variable {K : PySem.W.Frag} {T : List Addr}
/-! ### methods of own lists -/
theorem tyV_own {F H : Hp} {O Ξ : Own} {p : Addr} {l : List D} (w : Wd K T F (O ++ Ξ) H) (h : (p, C.ls l) ∈ O) : tyV K "list" (.ref p) H := by
  obtain ⟨vs, h1, _⟩ := own_get w h
  exact .inl ⟨rfl, vs, .of h1⟩
theorem re_append {to te : TE} {ρ : Rho} {O : Own} {P : PV} (h : RunE K T to ρ O fun s O1 => ∃ p l0, s = .o p ∧ (p, C.ls l0) ∈ O1 ∧ RunE K T te ρ O1 fun sy O2 => ∃ y l O3, sy = .d y ∧ O2.Perm ((p, .ls l) :: O3) ∧ l.length < sizeLine ∧ P (.d .non) ((p, .ls (l ++ [y])) :: O3)) :
    RunE K T (tBM K "list" rAppend to (tCons te tNil)) ρ O P := fun F H Ξ σ w e Q q =>
  h F H Ξ σ w e _ fun x s F1 O1 H1 e1 w1 r1 ⟨p, l0, hs, hm, h1⟩ => by
    subst hs
    have r1 : x = .ref p := r1
    subst r1
    refine ⟨tyV_own w1 hm, ?_⟩
    refine h1 F1 H1 Ξ σ w1 (e.mono e1) _ fun y sy F2 O2 H2 e2 w2 r2 ⟨d, l, O3, hy, hp, hz, pp⟩ => ?_
    subst hy
    have w3 : Wd K T F2 ((p, .ls l) :: (O3 ++ Ξ)) H2 := w2.perm (hp.append_right Ξ)
    obtain ⟨us, hu, ru⟩ := w3.own _ List.mem_cons_self
    refine ⟨p, us, y, rfl, rfl, hu, by rw [ru.length]; exact hz, ?_⟩
    exact q .non (.d .non) F2 ((p, .ls (l ++ [d])) :: O3) _ (e1.trans e2) (w3.write (c' := .ls (l ++ [d])) rfl rfl (fun ps z => by rw [hu] at z; cases z) ⟨us ++ [y], upd_same, ru.append (.one r2)⟩) rfl pp
theorem re_pop {to te : TE} {ρ : Rho} {O : Own} {P : PV} (h : RunE K T to ρ O fun s O1 => ∃ p l0, s = .o p ∧ (p, C.ls l0) ∈ O1 ∧ RunE K T te ρ O1 fun sy O2 => ∃ (k : Nat) (l : List D) (y : D) (O3 : Own), sy = .d (.int (k : Int)) ∧ O2.Perm ((p, .ls l) :: O3) ∧ l.length ≤ sizeLine ∧ l[k]? = some y ∧ P (.d y) ((p, .ls (l.eraseIdx k)) :: O3)) :
    RunE K T (tBM K "list" rPopAt to (tCons te tNil)) ρ O P := fun F H Ξ σ w e Q q =>
  h F H Ξ σ w e _ fun x s F1 O1 H1 e1 w1 r1 ⟨p, l0, hs, hm, h1⟩ => by
    subst hs
    have r1 : x = .ref p := r1
    subst r1
    refine ⟨tyV_own w1 hm, ?_⟩
    refine h1 F1 H1 Ξ σ w1 (e.mono e1) _ fun y sy F2 O2 H2 e2 w2 r2 ⟨k, l, d, O3, hy, hp, hz, hk, pp⟩ => ?_
    subst hy
    have r2 : y = .int (k : Int) := r2
    subst r2
    have w3 : Wd K T F2 ((p, .ls l) :: (O3 ++ Ξ)) H2 := w2.perm (hp.append_right Ξ)
    obtain ⟨us, hu, ru⟩ := w3.own _ List.mem_cons_self
    obtain ⟨v, hv, rv⟩ := ru.get hk
    have hl : k < l.length := (List.getElem?_eq_some_iff.mp hk).1
    have hs : sizeLine = 16777216 := sizeLine_eq
    have hi : seqIndex? (k : Int) us.length = some k := by
      rw [ru.length]
      exact (atI_get (atI_nat hk)).elim fun j h => by
        have := h.1
        unfold seqIndex? at this ⊢
        simp at this ⊢
        omega
    refine ⟨p, us, (k : Int), k, v, rfl, rfl, hu, by omega, by omega, hi, hv, ?_⟩
    exact q v (.d d) F2 ((p, .ls (l.eraseIdx k)) :: O3) _ (e1.trans e2) (w3.write (c' := .ls (l.eraseIdx k)) rfl rfl (fun ps z => by rw [hu] at z; cases z) ⟨us.eraseIdx k, upd_same, ru.eraseIdx k⟩) rv pp
/-- xs[k] = e -/
theorem rs_setL {te to ti : TE} {ρ : Rho} {O : Own} {P : Po} (h : RunE K T te ρ O fun sv O1 => ∃ v, sv = .d v ∧ RunE K T to ρ O1 fun so O2 => ∃ p, so = .o p ∧ RunE K T ti ρ O2 fun si O3 => ∃ l O4 k j, si = .d (.int k) ∧ O3.Perm ((p, .ls l) :: O4) ∧ ixN l.length k = some j ∧ P.nx ρ ((p, .ls (l.set j v)) :: O4)) :
    RunS K T (tAsg te (gSub to ti rSetL)) ρ O P := fun F H Ξ σ w e D d =>
  h F H Ξ σ w e _ fun x s F1 O1 H1 e1 w1 r1 ⟨v, hs, h1⟩ => by
    subst hs
    refine h1 F1 H1 Ξ σ w1 (e.mono e1) _ fun o so F2 O2 H2 e2 w2 r2 ⟨p, ho, h2⟩ => ?_
    subst ho
    refine h2 F2 H2 Ξ σ w2 ((e.mono e1).mono e2) _ fun i si F3 O3 H3 e3 w3 r3 ⟨l, O4, k, j, hi, hp, hx, pp⟩ => ?_
    subst hi
    have w4 : Wd K T F3 ((p, .ls l) :: (O4 ++ Ξ)) H3 := w3.perm (hp.append_right Ξ)
    obtain ⟨us, hu, ru⟩ := w4.own _ List.mem_cons_self
    refine ⟨p, us, k, j, r2, r3, hu, by rw [ru.length]; exact hx, ?_⟩
    exact d.nx ρ ((p, .ls (l.set j v)) :: O4) F3 _ σ ((e1.trans e2).trans e3) (w4.write (c' := .ls (l.set j v)) rfl rfl (fun ps z => by rw [hu] at z; cases z) ⟨us.set j x, upd_same, ru.set j (Rp.mono (e2.trans e3) _ _ r1)⟩) (((e.mono e1).mono e2).mono e3) pp
/-! ### built-in calls -/
theorem rc_abs {i : Int} {O : Own} {P : PV} (p : P (.d (.int (if i < 0 then -i else i))) O) : RunC K T (fun xs H Q => ∃ i, xs = [.int i] ∧ Q (.int (if i < 0 then -i else i)) H) [.d (.int i)] O P := fun F H Ξ vs w r Q q => by
  obtain ⟨v, rfl, rv⟩ := args1 r
  exact ⟨i, congrArg (fun z => [z]) (show v = .int i from rv), q _ (.d (.int _)) F O H (Ex.refl F) w rfl p⟩
theorem rc_min {i j : Int} {O : Own} {P : PV} (p : P (.d (.int (if j < i then j else i))) O) : RunC K T (fun xs H Q => ∃ i j, xs = [.int i, .int j] ∧ Q (.int (if j < i then j else i)) H) [.d (.int i), .d (.int j)] O P := fun F H Ξ vs w r Q q => by
  obtain ⟨v, u, rfl, rv, ru⟩ := args2 r
  have rv : v = .int i := rv
  have ru : u = .int j := ru
  subst rv ru
  exact ⟨i, j, rfl, q _ (.d (.int _)) F O H (Ex.refl F) w rfl p⟩
theorem rc_int {i : Int} {O : Own} {P : PV} (p : P (.d (.int i)) O) : RunC K T (fun xs H Q => (∃ i, xs = [.int i] ∧ Q (.int i) H) ∨ ∃ k, xs = [.bl k] ∧ Q (.int (if k then 1 else 0)) H) [.d (.int i)] O P := fun F H Ξ vs w r Q q => by
  obtain ⟨v, rfl, rv⟩ := args1 r
  exact .inl ⟨i, congrArg (fun z => [z]) (show v = .int i from rv), q _ (.d (.int i)) F O H (Ex.refl F) w rfl p⟩
theorem rc_strI {i : Int} {O : Own} {P : PV} (h : i.natAbs.log2 < 1920) (p : P (.d (.str (toString i))) O) : RunC K T (fun xs H Q => ∃ i : Int, xs = [.int i] ∧ i.natAbs.log2 < 1920 ∧ Q (.str (toString i)) H) [.d (.int i)] O P := fun F H Ξ vs w r Q q => by
  obtain ⟨v, rfl, rv⟩ := args1 r
  exact ⟨i, congrArg (fun z => [z]) (show v = .int i from rv), h, q _ (.d (.str (toString i))) F O H (Ex.refl F) w rfl p⟩
def txtB (b : Bool) : Str := if b then "True" else "False"
abbrev rReprB : List V → Hp → VK → Prop := fun xs H Q => ∃ b, xs = [.bl b] ∧ Q (.str (txtB b)) H
theorem call_reprB {X : Cx} : CallR X (.builtin "repr") rReprB := by
  intro pins s σ H xs us Q I r h
  obtain ⟨b, rfl, q⟩ := h
  obtain ⟨u, rfl, ru⟩ := vals1 r
  have ru : u = .bool b := ru
  subst ru
  exact PySem.P.repr_of_bool ⟨.str _, H, I.tok _, ⟨_, rfl⟩, q⟩
theorem rc_reprB {b : Bool} {O : Own} {P : PV} (p : P (.d (.str (txtB b))) O) : RunC K T rReprB [.d (.bl b)] O P := fun F H Ξ vs w r Q q => by
  obtain ⟨v, rfl, rv⟩ := args1 r
  exact ⟨b, congrArg (fun z => [z]) (show v = .bl b from rv), q _ (.d (.str (txtB b))) F O H (Ex.refl F) w rfl p⟩
theorem txtB_inj {a b : Bool} : (txtB a == txtB b) = (a == b) := by cases a <;> cases b <;> decide +kernel
/-- list(x), read from here on -/
abbrev rListOf (K : PySem.W.Frag) : List V → Hp → VK → Prop := fun xs H Q => ∃ p ys, xs = [.ref p] ∧ (SqL K H p ys ∨ SqT K H p ys) ∧ ∀ l, H l = none → Q (.ref l) (upd H l (.lst ys))
theorem rc_list {d : D} {l : List D} {O : Own} {P : PV} (h : itemsOf d = some l) (p : P (.d (.lst l)) O) : RunC K T (rListOf K) [.d d] O P := fun F H Ξ vs w r Q q => by
  obtain ⟨v, rfl, rv⟩ := args1 r
  obtain ⟨a, us, rfl, hr, hq⟩ := seq_of h rv
  refine ⟨a, us, rfl, hq.elim (fun h => .inl (w.ex.seqL h)) fun h => .inr (w.ex.seqT h), fun c hc => ?_⟩
  have e : Ex F (upd F c (.lst us)) := Ex.new (w.ex.back hc)
  exact q _ (.d (.lst l)) _ O _ e (w.new hc) ⟨c, _, rfl, upd_same, RpL.mono e _ _ hr⟩ p
/-- list(x), written later -/
theorem rc_listO {d : D} {l : List D} {O : Own} {P : PV} (h : itemsOf d = some l) (p : ∀ c, P (.o c) ((c, .ls l) :: O)) : RunC K T (rListOf K) [.d d] O P := fun F H Ξ vs w r Q q => by
  obtain ⟨v, rfl, rv⟩ := args1 r
  obtain ⟨a, us, rfl, hr, hq⟩ := seq_of h rv
  refine ⟨a, us, rfl, hq.elim (fun h => .inl (w.ex.seqL h)) fun h => .inr (w.ex.seqT h), fun c hc => ?_⟩
  exact q _ (.o c) F _ _ (Ex.refl F) (w.newO (c := .ls l) hc rfl ⟨us, upd_same, hr⟩) rfl (p c)
abbrev rTupOf (K : PySem.W.Frag) : List V → Hp → VK → Prop := fun xs H Q => ∃ p ys, xs = [.ref p] ∧ ((SqL K H p ys ∧ ∀ l, H l = none → Q (.ref l) (upd H l (.tup ys))) ∨ (SqT K H p ys ∧ Q (.ref p) H))
theorem rc_tuple {d : D} {l : List D} {O : Own} {P : PV} (h : itemsOf d = some l) (p : P (.d (.tup l)) O) : RunC K T (rTupOf K) [.d d] O P := fun F H Ξ vs w r Q q => by
  obtain ⟨v, rfl, rv⟩ := args1 r
  obtain ⟨a, us, rfl, hr, hq⟩ := seq_of h rv
  refine ⟨a, us, rfl, ?_⟩
  rcases hq with hq | hq
  · refine .inl ⟨w.ex.seqL hq, fun c hc => ?_⟩
    have e : Ex F (upd F c (.tup us)) := Ex.new (w.ex.back hc)
    exact q _ (.d (.tup l)) _ O _ e (w.new hc) ⟨c, _, rfl, .inl (.inl upd_same), RpL.mono e _ _ hr⟩ p
  · exact .inr ⟨w.ex.seqT hq, q _ (.d (.tup l)) F O H (Ex.refl F) w ⟨a, us, rfl, hq, hr⟩ p⟩
theorem rc_tupleO {c : Addr} {l : List D} {O : Own} {P : PV} (h : (c, C.ls l) ∈ O) (p : P (.d (.tup l)) O) : RunC K T (rTupOf K) [.o c] O P := fun F H Ξ vs w r Q q => by
  obtain ⟨v, rfl, rv⟩ := args1 r
  obtain ⟨us, hu, hr⟩ := own_get w h
  have rv : v = .ref c := rv
  subst rv
  refine ⟨c, us, rfl, .inl ⟨.of hu, fun t ht => ?_⟩⟩
  have e : Ex F (upd F t (.tup us)) := Ex.new (w.ex.back ht)
  exact q _ (.d (.tup l)) _ O _ e (w.new ht) ⟨t, _, rfl, .inl (.inl upd_same), RpL.mono e _ _ hr⟩ p
/-- s.upper() -/
theorem re_upper {to : TE} {ρ : Rho} {O : Own} {P : PV} (h : RunE K T to ρ O fun s O1 => ∃ a : Str, s = .d (.str a) ∧ a.length ≤ 5592405 ∧ P (.d (.str (Txt.upper a))) O1) :
    RunE K T (tBM0 K "str" (fun x xs H Q => ∃ a, x = .str a ∧ xs = [] ∧ a.length ≤ 5592405 ∧ Q (.str (Txt.upper a)) H) to) ρ O P := fun F H Ξ σ w e Q q =>
  h F H Ξ σ w e _ fun x s F1 O1 H1 e1 w1 r1 ⟨a, hs, hz, p⟩ => by
    subst hs
    have r1 : x = .str a := r1
    subst r1
    exact ⟨rfl, a, rfl, rfl, hz, q _ (.d (.str (Txt.upper a))) F1 O1 H1 e1 w1 rfl p⟩
/-- strings -/
def txts (l : List Str) : List D := l.map .str
theorem strs_rp {F : Hp} : ∀ {l : List Str} {vs : List V}, RpL K F (txts l) vs → vs = l.map V.str
  | [], vs, h => h
  | x :: l, vs, h => by
    obtain ⟨v, r, rfl, h2, h3⟩ := h
    rw [strs_rp h3, show v = .str x from h2]
    rfl
theorem rp_strs {F : Hp} : ∀ l : List Str, RpL K F (txts l) (l.map V.str)
  | [] => rfl
  | x :: l => ⟨.str x, _, rfl, rfl, rp_strs l⟩
theorem rc_sortedS {l : List Str} {O : Own} {P : PV} (hz : l.length < 64) (p : ∀ ys : List Str, ys.Perm l → sortedS ys = true → P (.d (.lst (txts ys))) O) : RunC K T (rSortedS K) [.d (.lst (txts l))] O P := fun F H Ξ vs w r Q q => by
  obtain ⟨v, rfl, rv⟩ := args1 r
  obtain ⟨a, us, rfl, hq, hr⟩ := rv
  have hu := strs_rp hr
  subst hu
  refine ⟨a, l, rfl, .of (w.ex _ _ hq), hz, fun ys c hp hs hc => ?_⟩
  have e : Ex F (upd F c (.lst (ys.map V.str))) := Ex.new (w.ex.back hc)
  exact q _ (.d (.lst (txts ys))) _ O _ e (w.new hc) ⟨c, _, rfl, upd_same, rp_strs ys⟩ (p ys hp hs)
/-! ### is, is not -/
theorem rr_isB {a b : Bool} {O : Own} {P : PV} (p : P (.d (.bl (decide (a = b)))) O) : RunR K T (fun x y H Q => ∃ a b, x = .bl a ∧ y = .bl b ∧ Q (.bl (decide (a = b))) H) (.d (.bl a)) (.d (.bl b)) O P := fun F H Ξ vx vy w rx ry Q q =>
  ⟨a, b, rx, ry, q _ (.d (.bl _)) F O H (Ex.refl F) w rfl p⟩
theorem rr_isnotB {a b : Bool} {O : Own} {P : PV} (p : P (.d (.bl (!decide (a = b)))) O) : RunR K T (fun x y H Q => ∃ a b, x = .bl a ∧ y = .bl b ∧ Q (.bl (!decide (a = b))) H) (.d (.bl a)) (.d (.bl b)) O P := fun F H Ξ vx vy w rx ry Q q =>
  ⟨a, b, rx, ry, q _ (.d (.bl _)) F O H (Ex.refl F) w rfl p⟩
/-! ### a < b < c, truth -/
theorem re_chain {r r' : R2} {ta tb tc : TE} {ρ : Rho} {O : Own} {P : PV} (h : RunE K T ta ρ O fun x O1 => RunE K T tb ρ O1 fun y O2 => RunR K T r x y O2 fun z O3 => ∃ k, z = .d (.bl k) ∧ if k = true then RunE K T tc ρ O3 fun w O4 => RunR K T r' y w O4 P else P (.d (.bl false)) O3) : RunE K T (tChain r r' ta tb tc) ρ O P := fun F H Ξ σ w e Q q =>
  h F H Ξ σ w e _ fun x sx F1 O1 H1 e1 w1 rx h1 => h1 F1 H1 Ξ σ w1 (e.mono e1) _ fun y sy F2 O2 H2 e2 w2 ry h2 => h2 F2 H2 Ξ x y w2 (rx.mono e2) ry _ fun z sz F3 O3 H3 e3 w3 rz ⟨k, hk, h3⟩ => by
    subst hk
    refine ⟨k, rz, ?_⟩
    cases k with
    | true =>
      rw [if_pos rfl] at h3 ⊢
      exact h3 F3 H3 Ξ σ w3 (((e.mono e1).mono e2).mono e3) _ fun c sc F4 O4 H4 e4 w4 rc h4 => h4 F4 H4 Ξ y c w4 ((ry.mono e3).mono e4) rc Q fun v s F5 O5 H5 e5 w5 r5 p5 => q v s F5 O5 H5 ((((e1.trans e2).trans e3).trans e4).trans e5) w5 r5 p5
    | false =>
      rw [if_neg Bool.false_ne_true] at h3 ⊢
      exact q _ (.d (.bl false)) F3 O3 H3 ((e1.trans e2).trans e3) w3 rfl h3
/-- the truth of data -/
def truD : D → Option Bool
  | .non => some false | .bl b => some b | .int i => some (i != 0) | .tup l => some (!l.isEmpty) | .lst l => some (!l.isEmpty) | _ => none
theorem rt_truth {te : TE} {ρ : Rho} {O : Own} {P : Bool → Own → Prop} (h : RunE K T te ρ O fun s O1 => ∃ d b, s = .d d ∧ truD d = some b ∧ P b O1) : RunT K T (fun σ H Q => te σ H fun x H' => ∃ k, TruV K x H' k ∧ Q k H') ρ O P := fun F H Ξ σ w e Q q =>
  h F H Ξ σ w e _ fun v s F1 O1 H1 e1 w1 r1 ⟨d, b, hs, hb, p⟩ => by
    subst hs
    refine ⟨b, ?_, q b F1 O1 H1 e1 w1 p⟩
    cases d with
    | non => cases hb; rw [show v = .non from r1]; rfl
    | bl c => cases hb; rw [show v = .bl b from r1]; rfl
    | int i => cases hb; rw [show v = .int i from r1]; rfl
    | tup l => cases hb; obtain ⟨a, vs, rfl, h1, h2⟩ := r1; exact .inr (.inl ⟨vs, w1.ex.seqT h1, by rw [isEmpty_len h2.length]⟩)
    | lst l => cases hb; obtain ⟨a, vs, rfl, h1, h2⟩ := r1; exact .inl ⟨vs, .of (w1.ex _ _ h1), by rw [isEmpty_len h2.length]⟩
    | _ => cases hb
end Al
end
section
set_option Elab.async false
set_option linter.all false
set_option maxRecDepth 100000
set_option maxHeartbeats 2000000
/-! A def's promise on data. -/
namespace Al
open PySem PySem.Spec PyProof.Rows L2
variable {K : PySem.W.Frag} {T : List Addr}
def startR (n : Nat) (xs : List Sl) : Rho := xs ++ List.replicate (n - xs.length) .u
theorem blankN {F : Hp} : ∀ n : Nat, Env K F (List.replicate n .u) (List.replicate n none)
  | 0 => rfl
  | n + 1 => ⟨none, List.replicate n none, rfl, trivial, blankN n⟩
theorem env_start {F : Hp} {N : List Str} {xs : List Sl} {vs : List V} (h : Args K F xs vs) : Env K F (startR N.length xs) (L2.start N vs) := by
  unfold startR L2.start
  rw [h.length]
  exact h.env.append (blankN _)
/-- the def st stands at f, its code object at c -/
structure FunT (K : PySem.W.Frag) (x : Str) (st : Stmt) (f : Addr) (fd : FuncData) (c : Addr) : Prop where
  ex : ∃ (oc : Value) (od : Option Addr) (kV doc pm : Value) (an : Option Addr) (ct : Value) (osl : Array (Option Value)),
    fd = PySem.W.fnOf x x (defArgs st) (defBody st) (defScope st) .none kV doc pm an (.ref c) ct ∧ K.lookup f = some ⟨oc, od, .func fd, osl⟩ ∧ PySem.W.codeIn K (.ref c) x = true
  kp : PySem.W.keepIn K (.ref f) = true
section
variable {P : Program} {w : World} {mg : Str → Option Value} {base : Heap}
theorem FunT.ok {x : Str} {st : Stmt} {f c : Addr} {fd : FuncData} {N ps : List Str} {k : Nat} {Sp : Prm} (F : FunT K x st f fd c) (S : FnScope N ps (defScope st)) (len : ∀ xs O Pv, Sp xs O Pv → xs.length = ps.length)
    (hbody : ∀ (A : Around) (outer : List PySem.Env) (s : Shared) (H : Hp) (E : XK), Room k (A.deeper (envOfC x (defScope st) s.heap.objs.size f (.ref c))) →
      ∃ t, PSs (cxOf CX0 P w K mg base N x (defScope st) f (.ref c) A outer s H E).nox (defBody st) t ∧ ∀ xs O Pv, Sp xs O Pv → RunS K T t (startR N.length xs) O { nx := fun _ O' => Pv (.d .non) O', rt := Pv }) :
    FnOk P w K mg base CX0 (k + 1) f fd ps (spOf K T Sp) := by
  obtain ⟨oc, od, kV, doc, pm, an, ct, osl, rfl, lk, hcd⟩ := F.ex
  refine fn_of lk hcd S ?_ fun A outer s H vs Q E hr hsp => ?_
  · rintro vs H Q E ⟨F, O, Ξ, xs, Pv, w, a, h, _⟩
    rw [a.length]
    exact len xs O Pv h
  · obtain ⟨F, O, Ξ, xs, Pv, wd, a, h, q⟩ := hsp
    obtain ⟨t, ht, hb⟩ := hbody A outer s H E hr
    refine ⟨t, ht.nox, hb xs O Pv h F H Ξ _ wd (env_start a) _ ⟨fun ρ O' F' H' σ e w v p => q .non (.d .non) F' O' H' e w rfl p, fun s v O' F' H' e w r p => q v s F' O' H' e w r p, fun ρ O' F' H' σ e w v p => p.elim, fun ρ O' F' H' σ e w v p => p.elim⟩⟩
theorem FunT.binds {x : Str} {st : Stmt} {f c : Addr} {fd : FuncData} {ps : List Str} (F : FunT K x st f fd c)
    (h : ∀ (kV doc pm : Value) (an : Option Addr) (cdv ct : Value) (us : List Value), us.length = ps.length → bindArgs (PySem.W.fnOf x x (defArgs st) (defBody st) (defScope st) .none kV doc pm an cdv ct) ⟨us, []⟩ = pure (ps.zip us)) : Binds K fd ps [] := by
  obtain ⟨oc, od, kV, doc, pm, an, ct, osl, rfl, lk, hcd⟩ := F.ex
  exact .all (h kV doc pm an (.ref c) ct)
theorem funT_mk {x : Str} {st : Stmt} {f c : Addr} {oc : Value} {od an : Option Addr} {osl : Array (Option Value)} {kV doc pm ct : Value} (l : K.lookup f = some ⟨oc, od, .func (PySem.W.fnOf x x (defArgs st) (defBody st) (defScope st) .none kV doc pm an (.ref c) ct), osl⟩)
    (hc : PySem.W.codeIn K (.ref c) x = true) (k : PySem.W.keepIn K (.ref f) = true) : FunT K x st f (PySem.W.fnOf x x (defArgs st) (defBody st) (defScope st) .none kV doc pm an (.ref c) ct) c := ⟨⟨oc, od, kV, doc, pm, an, ct, osl, rfl, l, hc⟩, k⟩
end
end Al
end
section
set_option Elab.async false
set_option linter.all false
set_option maxRecDepth 100000
set_option maxHeartbeats 2000000
/-! Helpers: names, and, or, not as values; two names at once. -/
namespace Al
open PySem PySem.Spec PyProof.Rows L2
variable {K : PySem.W.Frag} {T : List Addr}
theorem room_u {k : Nat} {A : Around} (r : Room k A) : A.units + 64 < cLine := by have := r.un; omega
theorem room_u1 {k : Nat} {A : Around} (r : Room k A) : A.units + 1 < cLine := by have := r.un; omega
section
variable {X : Cx} {x : Str} {pos : Pos}
theorem pe_ty {n : String} (hg : Gl X x) (hm : X.mg x = none) (hv : bootBuiltins x = some (.type n)) (hn : x ≠ "__name__" := by decide) (hd : (x == ("__debug__" : Str)) = false := by decide) : PE X (.Name x pos) (tC (.ty n)) := pe_bltn hg hm hv rfl hn hd
theorem pe_globR {a : Addr} (hg : Gl X x) (hm : X.mg x = some (.ref a)) (hd : (x == ("__debug__" : Str)) = false := by decide) : PE X (.Name x pos) (tC (.ref a)) := pe_glob hg hm rfl hd
theorem pe_globI {i : Int} {t : Tok} (hg : Gl X x) (hm : X.mg x = some (.int i t)) (hd : (x == ("__debug__" : Str)) = false := by decide) : PE X (.Name x pos) (tC (.int i)) := pe_glob hg hm ⟨t, rfl⟩ hd
theorem pe_globS {i : Str} {t : Tok} (hg : Gl X x) (hm : X.mg x = some (.str i t)) (hd : (x == ("__debug__" : Str)) = false := by decide) : PE X (.Name x pos) (tC (.str i)) := pe_glob hg hm ⟨t, rfl⟩ hd
end
theorem re_raw {v : V} {ρ : Rho} {O : Own} {P : PV} (p : P (.d (.raw v)) O) : RunE K T (tC v) ρ O P := re_c (d := .raw v) (fun _ => rfl) p
/-- a tuple that stands in the written part -/
theorem re_kTup {a : Addr} {l : List D} {ρ : Rho} {O : Own} {P : PV} (h : ∀ F, Rp K F (.tup l) (.ref a)) (p : P (.d (.tup l)) O) : RunE K T (tC (.ref a)) ρ O P := re_c (d := .tup l) h p
theorem re_andV {ta tb : TE} {ρ : Rho} {O : Own} {P : PV} (h : RunE K T ta ρ O fun x O1 => ∃ c, x = .d (.bl c) ∧ if c = true then RunE K T tb ρ O1 P else P (.d (.bl false)) O1) : RunE K T (tAndV ta tb) ρ O P := fun F H Ξ σ w e Q q =>
  h F H Ξ σ w e _ fun v s F1 O1 H1 e1 w1 r1 ⟨c, h1, h2⟩ => by
    subst h1
    refine ⟨c, r1, ?_⟩
    cases c with
    | true => rw [if_pos rfl] at h2 ⊢; exact h2 F1 H1 Ξ σ w1 (e.mono e1) Q fun v s F3 O3 H3 e3 w3 r3 p3 => q v s F3 O3 H3 (e1.trans e3) w3 r3 p3
    | false => rw [if_neg Bool.false_ne_true] at h2 ⊢; exact q _ (.d (.bl false)) F1 O1 H1 e1 w1 rfl h2
theorem re_orV {ta tb : TE} {ρ : Rho} {O : Own} {P : PV} (h : RunE K T ta ρ O fun x O1 => ∃ c, x = .d (.bl c) ∧ if c = true then P (.d (.bl true)) O1 else RunE K T tb ρ O1 P) : RunE K T (tOrV ta tb) ρ O P := fun F H Ξ σ w e Q q =>
  h F H Ξ σ w e _ fun v s F1 O1 H1 e1 w1 r1 ⟨c, h1, h2⟩ => by
    subst h1
    refine ⟨c, r1, ?_⟩
    cases c with
    | true => rw [if_pos rfl] at h2 ⊢; exact q _ (.d (.bl true)) F1 O1 H1 e1 w1 rfl h2
    | false => rw [if_neg Bool.false_ne_true] at h2 ⊢; exact h2 F1 H1 Ξ σ w1 (e.mono e1) Q fun v s F3 O3 H3 e3 w3 r3 p3 => q v s F3 O3 H3 (e1.trans e3) w3 r3 p3
theorem re_notV {ta : TE} {ρ : Rho} {O : Own} {P : PV} (h : RunE K T ta ρ O fun x O1 => ∃ c, x = .d (.bl c) ∧ P (.d (.bl (!c))) O1) : RunE K T (tNotV ta) ρ O P := fun F H Ξ σ w e Q q =>
  h F H Ξ σ w e _ fun v s F1 O1 H1 e1 w1 r1 ⟨c, h1, h2⟩ => by
    subst h1
    exact ⟨c, r1, q _ (.d (.bl (!c))) F1 O1 H1 e1 w1 rfl h2⟩
/-- a, b = e1, e2 -/
theorem rs_par {ta : TA} {i j : Nat} {ρ : Rho} {O : Own} {P : Po} (h : RunA K T ta ρ O fun xs O1 => ∃ x y, xs = [x, y] ∧ P.nx ((ρ.set i x).set j y) O1) : RunS K T (tPar i j ta) ρ O P := fun F H Ξ σ w e D d =>
  h F H Ξ σ w e _ fun vs xs F1 O1 H1 e1 w1 r1 ⟨x, y, hx, h1⟩ => by
    subst hx
    obtain ⟨v, u, rfl, rv, ru⟩ := args2 r1
    exact ⟨v, u, rfl, d.nx _ O1 F1 H1 _ e1 w1 (((e.mono e1).set i rv.o).set j ru.o) h1⟩
/-- the tests of a list of conditions of a comprehension -/
theorem rt_yes {ρ : Rho} {O : Own} {P : Bool → Own → Prop} (p : P true O) : RunT K T tYes ρ O P := fun F H Ξ σ w e Q q => q true F O H (Ex.refl F) w p
/-- what a def is called with, other own objects put aside -/
theorem re_callF {S : Prm} {E : XK} {ta : TA} {ρ : Rho} {O : Own} {P : PV} (h : RunA K T ta ρ O fun xs O1 => ∃ O2 O3, O1.Perm (O2 ++ O3) ∧ S xs O2 fun s O4 => P s (O4 ++ O3)) : RunE K T (tCall (spOf K T S) [] E ta) ρ O P := fun F H Ξ σ w e Q q =>
  h F H Ξ σ w e _ fun vs xs F1 O1 H1 e1 w1 rx ⟨O2, O3, hp, h1⟩ => by
    show spOf K T S (vs ++ []) H1 Q E
    rw [List.append_nil]
    have w2 := w1.perm (hp.append_right Ξ)
    rw [List.append_assoc] at w2
    exact ⟨F1, O2, O3 ++ Ξ, xs, _, w2, rx, h1, fun v s F3 O3' H3 e3 w3 r3 p3 => q v s F3 (O3' ++ O3) H3 (e1.trans e3) (by rw [List.append_assoc]; exact w3) r3 p3⟩
theorem rr_b {c : Int → Int → Bool} {i j : Int} {O : Own} {P : PV} (p : P (.d (.bl (c i j))) O) : RunR K T (rI0 fun i j => .bl (c i j)) (.d (.int i)) (.d (.int j)) O P := rr_I0 (d := .bl (c i j)) (fun _ => rfl) p
theorem rr_i {c : Int → Int → Int} {i j : Int} {O : Own} {P : PV} (p : P (.d (.int (c i j))) O) : RunR K T (rI0 fun i j => .int (c i j)) (.d (.int i)) (.d (.int j)) O P := rr_I0 (d := .int (c i j)) (fun _ => rfl) p
theorem rr_ic {Cn : Int → Int → Prop} {c : Int → Int → Int} {i j : Int} {O : Own} {P : PV} (h : Cn i j) (p : P (.d (.int (c i j))) O) : RunR K T (rI Cn fun i j => .int (c i j)) (.d (.int i)) (.d (.int j)) O P := rr_I (d := .int (c i j)) h (fun _ => rfl) p
theorem ru_i {c : Int → Int} {i : Int} {O : Own} {P : PV} (p : P (.d (.int (c i))) O) : RunU K T (rU fun i => .int (c i)) (.d (.int i)) O P := ru_U (d := .int (c i)) (fun _ => rfl) p
theorem rr_ltS {i j : Str} {O : Own} {P : PV} (p : P (.d (.bl (decide (i.cps.toList < j.cps.toList)))) O) : RunR K T (fun x y H Q => ∃ i j, x = .str i ∧ y = .str j ∧ Q (.bl (decide (i.cps.toList < j.cps.toList))) H) (.d (.str i)) (.d (.str j)) O P := fun F H Ξ vx vy w rx ry Q q => ⟨i, j, rx, ry, q _ (.d (.bl _)) F O H (Ex.refl F) w rfl p⟩
theorem rr_leS {i j : Str} {O : Own} {P : PV} (p : P (.d (.bl (!decide (j.cps.toList < i.cps.toList)))) O) : RunR K T (fun x y H Q => ∃ i j, x = .str i ∧ y = .str j ∧ Q (.bl (!decide (j.cps.toList < i.cps.toList))) H) (.d (.str i)) (.d (.str j)) O P := fun F H Ξ vx vy w rx ry Q q => ⟨i, j, rx, ry, q _ (.d (.bl _)) F O H (Ex.refl F) w rfl p⟩
theorem atI_0 {α : Type} {x : α} {l : List α} : atI (x :: l) 0 = some x := atI_nat (j := 0) rfl
theorem atI_1 {α : Type} {x y : α} {l : List α} : atI (x :: y :: l) 1 = some y := atI_nat (j := 1) rfl
theorem ift {c : Bool} {A B : Prop} (hc : c = true) (h : A) : if c = true then A else B := by rw [if_pos hc]; exact h
theorem iff' {c : Bool} {A B : Prop} (hc : c = false) (h : B) : if c = true then A else B := by rw [hc, if_neg Bool.false_ne_true]; exact h
def asD : List Sl → Option (List D)
  | [] => some []
  | .d x :: l => (asD l).map (x :: ·)
  | _ => none
theorem asD_map : ∀ {xs : List Sl} {ds : List D}, asD xs = some ds → xs = ds.map Sl.d
  | [], ds, h => by cases h; rfl
  | .d x :: l, ds, h => by
    obtain ⟨es, h1, rfl⟩ := Option.map_eq_some_iff.mp (show (asD l).map (x :: ·) = some ds from h)
    rw [asD_map h1]
    rfl
  | .u :: l, ds, h => by cases h
  | .o a :: l, ds, h => by cases h
theorem re_tupD {ta : TA} {ρ : Rho} {O : Own} {P : PV} (h : RunA K T ta ρ O fun xs O1 => ∃ ds, asD xs = some ds ∧ ds.length.ble 1000 = true ∧ P (.d (.tup ds)) O1) : RunE K T (tTup ta) ρ O P := re_tup fun F H Ξ σ w e Q q => h F H Ξ σ w e Q fun vs ss F' O' H' e1 w1 r1 ⟨ds, h1, h2, h3⟩ => q vs ss F' O' H' e1 w1 r1 ⟨ds, asD_map h1, Nat.le_of_ble_eq_true h2, h3⟩
theorem re_lstD {ta : TA} {ρ : Rho} {O : Own} {P : PV} (h : RunA K T ta ρ O fun xs O1 => ∃ ds, asD xs = some ds ∧ ds.length.ble 1000 = true ∧ P (.d (.lst ds)) O1) : RunE K T (tLst ta) ρ O P := re_lst fun F H Ξ σ w e Q q => h F H Ξ σ w e Q fun vs ss F' O' H' e1 w1 r1 ⟨ds, h1, h2, h3⟩ => q vs ss F' O' H' e1 w1 r1 ⟨ds, asD_map h1, Nat.le_of_ble_eq_true h2, h3⟩
theorem re_lstOD {ta : TA} {ρ : Rho} {O : Own} {P : PV} (h : RunA K T ta ρ O fun xs O1 => ∃ ds, asD xs = some ds ∧ ds.length.ble 1000 = true ∧ ∀ p, P (.o p) ((p, .ls ds) :: O1)) : RunE K T (tLst ta) ρ O P := re_lstO fun F H Ξ σ w e Q q => h F H Ξ σ w e Q fun vs ss F' O' H' e1 w1 r1 ⟨ds, h1, h2, h3⟩ => q vs ss F' O' H' e1 w1 r1 ⟨ds, asD_map h1, Nat.le_of_ble_eq_true h2, h3⟩
def gokD (N : List Str) (sc scope : Scope) (own : List Str) (cp : List (Str × Nat)) : Bool :=
  decide (scope.kind = .function) && decide (scope.isCoroutine = false) && scope.names.all (fun y => decide (y.2 ≠ .cell)) && decide (scope.names.lookup (".0" : Str) = some NameKind.local) &&
    scope.names.all (fun y => !decide (y.2 = .free) || (decide (sc.names.lookup y.1 = some .cell) || decide (sc.names.lookup y.1 = some .free))) && cp.all fun p => decide (N[p.2]? = some p.1) && decide (scope.names.lookup p.1 = some .free)
theorem gok_by {N : List Str} {sc scope : Scope} {own : List Str} {cp : List (Str × Nat)} (h : gokD N sc scope own cp = true) : Gx.GOk N sc scope own cp := by
  unfold gokD at h
  simp only [Bool.and_eq_true, List.all_eq_true, decide_eq_true_eq, Bool.or_eq_true, Bool.not_eq_true', decide_eq_false_iff_not] at h
  obtain ⟨⟨⟨⟨⟨h1, h2⟩, h3⟩, h4⟩, h5⟩, h6⟩ := h
  refine ⟨h1, h2, h3, h4, fun y hy hf => ?_, fun p hp => h6 p hp⟩
  rcases h5 y hy with q | q
  · exact absurd hf q
  · exact q
end Al
end
section
set_option Elab.async false
set_option linter.all false
set_option maxRecDepth 100000
set_option maxHeartbeats 2000000
/-! Dicts that may be written. -/
namespace Al
open PySem PySem.Spec PyProof.Rows L2
variable {K : PySem.W.Frag} {T : List Addr}
abbrev Kvs := List (L2.Key × Sl)
def valS (kvs : Kvs) (k : L2.Key) : Option Sl := (kvs.find? fun kv => decide (kv.1 = k)).map (·.2)
def putS (kvs : Kvs) (k : L2.Key) (v : Sl) : Kvs := if (kvs.any fun kv => decide (kv.1 = k)) = true then kvs.map (fun kv => if kv.1 = k then (kv.1, v) else kv) else kvs ++ [(k, v)]
def kD : L2.Key → D
  | .inl i => .int i
  | .inr x => .str x
theorem kD_rp {F : Hp} {k : L2.Key} {v : V} (r : Rp K F (kD k) v) : v = kV k := by cases k <;> exact r
theorem KvR.val {F : Hp} (k : L2.Key) : ∀ {l : Kvs} {vs : List (L2.Key × V)}, KvR K F l vs → (∀ s, valS l k = some s → ∃ v, valV vs k = some v ∧ SlV K F s v) ∧ (valS l k = none → valV vs k = none) ∧ (valV vs k).isSome = (valS l k).isSome
  | [], vs, h => by
    rw [show vs = [] from h]
    exact ⟨fun s e => by simp [valS] at e, fun _ => rfl, rfl⟩
  | p :: l, vs, h => by
    obtain ⟨v, r, rfl, h2, h3⟩ := h
    by_cases e : p.1 = k
    · have e1 : valS (p :: l) k = some p.2 := by simp [valS, List.find?_cons, e]
      have e2 : valV ((p.1, v) :: r) k = some v := valV_pos e
      rw [e1, e2]
      exact ⟨fun s q => by cases q; exact ⟨v, rfl, h2⟩, fun q => (nomatch q), rfl⟩
    · have e1 : valS (p :: l) k = valS l k := by simp [valS, List.find?_cons, e]
      have e2 : valV ((p.1, v) :: r) k = valV r k := valV_neg e
      rw [e1, e2]
      exact KvR.val k h3
theorem KvR.any {F : Hp} (k : L2.Key) : ∀ {l : Kvs} {vs : List (L2.Key × V)}, KvR K F l vs → (vs.any fun kv => decide (kv.1 = k)) = l.any fun kv => decide (kv.1 = k)
  | [], vs, h => by rw [show vs = [] from h]; rfl
  | p :: l, vs, h => by
    obtain ⟨v, r, rfl, h2, h3⟩ := h
    rw [List.any_cons, List.any_cons, KvR.any k h3]
theorem KvR.map {F : Hp} (k : L2.Key) {s : Sl} {v : V} (hs : SlV K F s v) : ∀ {l : Kvs} {vs : List (L2.Key × V)}, KvR K F l vs → KvR K F (l.map fun kv => if kv.1 = k then (kv.1, s) else kv) (vs.map fun kv => if kv.1 = k then (kv.1, v) else kv)
  | [], vs, h => by rw [show vs = [] from h]; exact rfl
  | p :: l, vs, h => by
    obtain ⟨u, r, rfl, h2, h3⟩ := h
    rw [List.map_cons, List.map_cons]
    by_cases e : p.1 = k
    · rw [if_pos e, if_pos (show ((p.1, u) : L2.Key × V).1 = k from e)]
      exact ⟨v, _, rfl, hs, KvR.map k hs h3⟩
    · rw [if_neg e, if_neg (show ¬ ((p.1, u) : L2.Key × V).1 = k from e)]
      exact ⟨u, _, rfl, h2, KvR.map k hs h3⟩
theorem KvR.append {F : Hp} : ∀ {l m : Kvs} {vs us : List (L2.Key × V)}, KvR K F l vs → KvR K F m us → KvR K F (l ++ m) (vs ++ us)
  | [], m, vs, us, h, k => by rw [show vs = [] from h]; exact k
  | p :: l, m, vs, us, h, k => by
    obtain ⟨v, r, rfl, h2, h3⟩ := h
    exact ⟨v, r ++ us, rfl, h2, KvR.append h3 k⟩
theorem KvR.put {F : Hp} {l : Kvs} {vs : List (L2.Key × V)} (h : KvR K F l vs) (k : L2.Key) {s : Sl} {v : V} (hs : SlV K F s v) : KvR K F (putS l k s) (putK vs k v) := by
  unfold putS putK
  rw [h.any k]
  split
  · exact h.map k hs
  · exact h.append ⟨v, [], rfl, hs, rfl⟩
theorem KvR.length {F : Hp} : ∀ {l : Kvs} {vs : List (L2.Key × V)}, KvR K F l vs → vs.length = l.length
  | [], vs, h => by rw [show vs = [] from h]; rfl
  | p :: l, vs, h => by
    obtain ⟨v, r, rfl, h2, h3⟩ := h
    rw [List.length_cons, List.length_cons, KvR.length h3]
theorem dk_get {F H : Hp} {O Ξ : Own} {p : Addr} {l : Kvs} (w : Wd K T F (O ++ Ξ) H) (h : (p, C.dk l) ∈ O) : ∃ vs, H p = some (.dK vs) ∧ KvR K F l vs := w.own _ (List.mem_append_left _ h)
/-- d[k] -/
theorem re_dget {td ty : TE} {ρ : Rho} {O : Own} {P : PV} (h : RunE K T td ρ O fun s O1 => ∃ a, s = .o a ∧ RunE K T ty ρ O1 fun sy O2 => ∃ k kvs x, sy = .d (kD k) ∧ (a, C.dk kvs) ∈ O2 ∧ valS kvs k = some x ∧ P x O2) : RunE K T (tDGet td ty) ρ O P := fun F H Ξ σ w e Q q =>
  h F H Ξ σ w e _ fun x s F1 O1 H1 e1 w1 r1 ⟨a, hs, h1⟩ => by
    subst hs
    have r1 : x = .ref a := r1
    subst r1
    refine h1 F1 H1 Ξ σ w1 (e.mono e1) _ fun y sy F2 O2 H2 e2 w2 r2 ⟨k, kvs, x, hy, hm, hv, p⟩ => ?_
    subst hy
    have r2 := kD_rp r2
    subst r2
    obtain ⟨vs, hp, hk⟩ := dk_get w2 hm
    obtain ⟨v, hv1, hv2⟩ := (hk.val k).1 x hv
    refine ⟨a, v, rfl, by rw [← hv1]; exact DGet.k hp, q v x F2 O2 H2 (e1.trans e2) w2 hv2 p⟩
theorem re_din {td ty : TE} {ρ : Rho} {O : Own} {P : PV} (h : RunE K T ty ρ O fun sy O1 => ∃ k, sy = .d (kD k) ∧ RunE K T td ρ O1 fun s O2 => ∃ a kvs, s = .o a ∧ (a, C.dk kvs) ∈ O2 ∧ P (.d (.bl (valS kvs k).isSome)) O2) : RunE K T (tDIn ty td) ρ O P := fun F H Ξ σ w e Q q =>
  h F H Ξ σ w e _ fun y sy F1 O1 H1 e1 w1 r1 ⟨k, hy, h1⟩ => by
    subst hy
    have r1 := kD_rp r1
    subst r1
    refine h1 F1 H1 Ξ σ w1 (e.mono e1) _ fun x s F2 O2 H2 e2 w2 r2 ⟨a, kvs, hs, hm, p⟩ => ?_
    subst hs
    obtain ⟨vs, hp, hk⟩ := dk_get w2 hm
    refine ⟨a, _, r2, DGet.k hp, ?_⟩
    rw [(hk.val k).2.2]
    exact q _ (.d (.bl _)) F2 O2 H2 (e1.trans e2) w2 rfl p
theorem re_dnotin {td ty : TE} {ρ : Rho} {O : Own} {P : PV} (h : RunE K T ty ρ O fun sy O1 => ∃ k, sy = .d (kD k) ∧ RunE K T td ρ O1 fun s O2 => ∃ a kvs, s = .o a ∧ (a, C.dk kvs) ∈ O2 ∧ P (.d (.bl (!(valS kvs k).isSome))) O2) : RunE K T (tDNotIn ty td) ρ O P := fun F H Ξ σ w e Q q =>
  h F H Ξ σ w e _ fun y sy F1 O1 H1 e1 w1 r1 ⟨k, hy, h1⟩ => by
    subst hy
    have r1 := kD_rp r1
    subst r1
    refine h1 F1 H1 Ξ σ w1 (e.mono e1) _ fun x s F2 O2 H2 e2 w2 r2 ⟨a, kvs, hs, hm, p⟩ => ?_
    subst hs
    obtain ⟨vs, hp, hk⟩ := dk_get w2 hm
    refine ⟨a, _, r2, DGet.k hp, ?_⟩
    rw [(hk.val k).2.2]
    exact q _ (.d (.bl _)) F2 O2 H2 (e1.trans e2) w2 rfl p
/-- d[k] = e -/
theorem rs_dput {td ty tv : TE} {ρ : Rho} {O : Own} {P : Po} (h : RunE K T tv ρ O fun sv O1 => RunE K T td ρ O1 fun s O2 => ∃ a, s = .o a ∧ RunE K T ty ρ O2 fun sy O3 => ∃ k kvs O4, sy = .d (kD k) ∧ O3.Perm ((a, .dk kvs) :: O4) ∧ kvs.length ≤ 1000 ∧ P.nx ρ ((a, .dk (putS kvs k sv)) :: O4)) :
    RunS K T (sDPut td ty tv) ρ O P := fun F H Ξ σ w e D d =>
  h F H Ξ σ w e _ fun v sv F1 O1 H1 e1 w1 r1 h1 => h1 F1 H1 Ξ σ w1 (e.mono e1) _ fun x s F2 O2 H2 e2 w2 r2 ⟨a, hs, h2⟩ => by
    subst hs
    refine h2 F2 H2 Ξ σ w2 ((e.mono e1).mono e2) _ fun y sy F3 O3 H3 e3 w3 r3 ⟨k, kvs, O4, hy, hp, hl, pp⟩ => ?_
    subst hy
    have r3 := kD_rp r3
    subst r3
    have w4 : Wd K T F3 ((a, .dk kvs) :: (O4 ++ Ξ)) H3 := w3.perm (hp.append_right Ξ)
    obtain ⟨vs, hu, ru⟩ := w4.own _ List.mem_cons_self
    refine ⟨a, _, r2, DPut.k hu (by rw [ru.length]; exact small1000 hl), ?_⟩
    exact d.nx ρ ((a, .dk (putS kvs k sv)) :: O4) F3 _ σ ((e1.trans e2).trans e3) (w4.write (c' := .dk (putS kvs k sv)) rfl rfl (fun ps z => by rw [hu] at z; cases z) ⟨_, upd_same, ru.put k (r1.mono (e2.trans e3))⟩) (((e.mono e1).mono e2).mono e3) pp
/-! ### {k: v, ..} -/
def RunP (K : PySem.W.Frag) (T : List Addr) (trs : List (TE × TE)) (ρ : Rho) (O : Own) (P : List (Sl × Sl) → Own → Prop) : Prop := ∀ (F H : Hp) (Ξ : Own) (σ : L2.St), Wd K T F (O ++ Ξ) H → Env K F ρ σ →
  ∀ Q : List (V × V) → Hp → Prop, (∀ vs ss F' O' H', Ex F F' → Wd K T F' (O' ++ Ξ) H' → Paired (fun s v => SlV K F' s.1 v.1 ∧ SlV K F' s.2 v.2) ss vs → P ss O' → Q vs H') → tPairs trs σ H Q
theorem paired_mono {α β : Type} {R S : α → β → Prop} (h : ∀ a b, R a b → S a b) : ∀ {l : List α} {m : List β}, Paired R l m → Paired S l m
  | _, _, .nil => .nil
  | _, _, .cons r t => .cons (h _ _ r) (paired_mono h t)
theorem rp_nil {ρ : Rho} {O : Own} {P : List (Sl × Sl) → Own → Prop} (p : P [] O) : RunP K T [] ρ O P := fun F H Ξ σ w e Q q => q [] [] F O H (Ex.refl F) w .nil p
theorem rp_cons {tk tv : TE} {trs : List (TE × TE)} {ρ : Rho} {O : Own} {P : List (Sl × Sl) → Own → Prop} (h : RunE K T tk ρ O fun sk O1 => RunE K T tv ρ O1 fun sv O2 => RunP K T trs ρ O2 fun ss O3 => P ((sk, sv) :: ss) O3) : RunP K T ((tk, tv) :: trs) ρ O P := fun F H Ξ σ w e Q q =>
  h F H Ξ σ w e _ fun x sk F1 O1 H1 e1 w1 r1 h1 => h1 F1 H1 Ξ σ w1 (e.mono e1) _ fun y sv F2 O2 H2 e2 w2 r2 h2 => h2 F2 H2 Ξ σ w2 ((e.mono e1).mono e2) _ fun vs ss F3 O3 H3 e3 w3 r3 h3 =>
    q ((x, y) :: vs) ((sk, sv) :: ss) F3 O3 H3 ((e1.trans e2).trans e3) w3 (.cons ⟨(r1.mono e2).mono e3, r2.mono e3⟩ r3) h3
theorem merge_self : ∀ (more kvs : List (L2.Key × V)), ((kvs ++ more).map (·.1)).Nodup → mergeK kvs more = kvs ++ more
  | [], kvs, _ => by simp [mergeK]
  | p :: more, kvs, h => by
    have hn : (kvs.any fun kv => decide (kv.1 = p.1)) = false := by
      rw [List.any_eq_false]
      intro q hq hk
      have hk := of_decide_eq_true hk
      rw [List.map_append, List.nodup_append] at h
      exact h.2.2 q.1 (List.mem_map_of_mem hq) p.1 (List.mem_map_of_mem List.mem_cons_self) hk
    show mergeK (putK kvs p.1 p.2) more = _
    have e : putK kvs p.1 p.2 = kvs ++ [p] := by
      unfold putK
      rw [hn, if_neg Bool.false_ne_true]
    rw [e, merge_self more (kvs ++ [p]) (by simpa using h)]
    simp
theorem pairs_kv {F : Hp} : ∀ {kvs : Kvs} {vs : List (V × V)}, Paired (fun (s : Sl × Sl) (v : V × V) => SlV K F s.1 v.1 ∧ SlV K F s.2 v.2) (kvs.map fun kv => (Sl.d (kD kv.1), kv.2)) vs → ∃ us : List (L2.Key × V), vs = us.map (fun kv => (kV kv.1, kv.2)) ∧ KvR K F kvs us ∧ us.map (·.1) = kvs.map (·.1)
  | [], vs, h => by cases h; exact ⟨[], rfl, rfl, rfl⟩
  | p :: l, vs, h => by
    cases h with
    | cons r t =>
      rename_i v r'
      obtain ⟨us, h1, h2, h3⟩ := pairs_kv t
      obtain ⟨x, y⟩ := v
      have hx : x = kV p.1 := kD_rp r.1
      exact ⟨(p.1, y) :: us, by rw [List.map_cons, ← h1, hx], ⟨y, us, rfl, r.2, h2⟩, by rw [List.map_cons, List.map_cons, h3]⟩
theorem re_disp {trs : List (TE × TE)} {ρ : Rho} {O : Own} {P : PV} (h : RunP K T trs ρ O fun ss O1 => ∃ kvs : Kvs, ss = kvs.map (fun kv => (Sl.d (kD kv.1), kv.2)) ∧ kvs.length ≤ 15 ∧ (kvs.map (·.1)).Nodup ∧ ∀ p, P (.o p) ((p, .dk kvs) :: O1)) : RunE K T (tDisp trs) ρ O P := fun F H Ξ σ w e Q q => by
  intro p hp
  have w0 : Wd K T F ((p, .dk []) :: (O ++ Ξ)) (upd H p (.dK [])) := w.newO (c := .dk []) hp rfl ⟨[], upd_same, rfl⟩
  refine h F _ ((p, .dk []) :: Ξ) σ (w0.perm List.perm_middle.symm) e _ fun vs ss F1 O1 H1 e1 w1 r1 ⟨kvs, hs, hl, hn, pp⟩ => ?_
  subst hs
  obtain ⟨us, h1, h2, h3⟩ := pairs_kv r1
  have w2 : Wd K T F1 ((p, .dk []) :: (O1 ++ Ξ)) H1 := w1.perm List.perm_middle
  obtain ⟨vs0, hu, ru⟩ := w2.own _ List.mem_cons_self
  have ru : vs0 = [] := ru
  subst ru
  refine ⟨hu, us, h1, by rw [h2.length]; exact hl, ?_⟩
  rw [merge_self us [] (by rw [List.nil_append, h3]; exact hn), List.nil_append]
  exact q _ (.o p) F1 ((p, .dk kvs) :: O1) _ e1 (w2.write (c' := .dk kvs) rfl rfl (fun ps z => by rw [hu] at z; cases z) ⟨us, upd_same, h2⟩) rfl (pp p)
/-- an own object is let go -/
theorem rs_letgo {ts : TS} {q : Addr × C} {ρ : Rho} {O : Own} {P : Po} (h : RunS K T ts ρ O P) : RunS K T ts ρ (q :: O) P := fun F H Ξ σ w e D d => h F H Ξ σ (Wd.drop (q := q) (O := O ++ Ξ) w) e D d
theorem re_letgo {te : TE} {q : Addr × C} {ρ : Rho} {O : Own} {P : PV} (h : RunE K T te ρ O P) : RunE K T te ρ (q :: O) P := fun F H Ξ σ w e Q k => h F H Ξ σ (Wd.drop (q := q) (O := O ++ Ξ) w) e Q k
end Al
end
section
set_option Elab.async false
set_option linter.all false
set_option maxRecDepth 100000
set_option maxHeartbeats 2000000
/-! The end: every def's table is known. -/
namespace Al
open PySem PySem.Spec PyProof.Rows L2 LamX
/-- the table of the def that stands at f is empty, its code object is known -/
def TabOf (K : PySem.W.Frag) (f : Addr) (h : Heap) : Prop := ∀ (c : Addr) (o : Obj) (fd : FuncData), K.lookup f = some o → o.data = .func fd → fd.code = .ref c →
  ∃ P, h.get? P = some { cls := .none, data := .fields #[] } ∧ PySem.W.CodeHd h c P
def noTab (K : PySem.W.Frag) : Bool := K.all fun p => match p.2.data with | .fields vs => !vs.isEmpty | _ => true
theorem lookup_mem : ∀ {K : PySem.W.Frag} {a : Addr} {o : Obj} (h : List.lookup a K = some o), (a, o) ∈ K
  | [], a, o, h => by cases h
  | (b, u) :: K, a, o, h => by
    unfold List.lookup at h
    split at h
    · rename_i e
      cases h
      rw [beq_iff_eq.mp e]
      exact List.mem_cons_self
    · exact List.mem_cons_of_mem _ (lookup_mem h)
theorem no_tab {K : PySem.W.Frag} {h : Heap} {P : Addr} (hno : noTab K = true) (X : K.In h) (hP : h.get? P = some { cls := .none, data := .fields #[] }) : K.lookup P = none := by
  cases e : K.lookup P with
  | none => rfl
  | some o =>
    have h1 := X _ _ e
    rw [hP] at h1
    have h2 := List.all_eq_true.mp hno _ (lookup_mem e)
    cases h1
    simp at h2
theorem walk_ofDefs {l : PySem.W.OpenLaw} {n k : Nat} {q : Program} {loose : List Str} {XP : (Str → Option Value) → Heap → Prop} {YP : World → Heap → Prop} {d : DefRec} {K : Params → PySem.W.Frag} {CX : World → CXT} {x : Str}
    (hn : l.most = some n) (hn2 : n ≤ sizeLine) (hdf : d.params.defaults = []) (hr : Room k callerA) (hY : ∀ (w : World) (h : Heap), YP w h → (K w.params).In h)
    (F : ∀ (w : World) (mg : Str → Option Value) (fa : Addr) (h : Heap), YP w h → (K w.params).In h → h.Ns mainGlobals mg → mg d.name = some (.ref fa) → (∀ (name : Str) (f : Addr), ((recsOf q).any fun e => e.name == name) = true → mg name = some (.ref f) → TabOf (K w.params) f h) → LawAtS l w (K w.params) (CX w) k n x mg fa h)
    (hCX : ∀ (w : World) (H : Hp) (s : Shared) (e : Value) (s' : Shared), CX w [] H s (fun _ _ _ => False) e s' → False) :
    PySem.W.WalkO q loose XP YP l.row.toRowW d [] (fun f vs => PySem.call f vs) := by
  refine Att.attach_callB hn hdf fun w s₀ s₁ mg mb fa o pm cd doc a vs ns G Y ho hd hcd hmg hobj hints hlen hbits hg => ?_
  have KX := hY w _ Y
  have own : ∀ (name : Str) (f : Addr), ((recsOf q).any fun e => e.name == name) = true → mg name = some (.ref f) → TabOf (K w.params) f s₁.heap := fun name f hrec hmf c o1 fd1 k1 k2 k3 => by
    obtain ⟨dL, hm, hn1⟩ := List.any_eq_true.mp hrec
    have hn2 : dL.name = name := beq_iff_eq.mp hn1
    obtain ⟨a', o', fd', c', P', h1, h2, h3, h4, h5, h6⟩ := G.T.tab dL hm
    rw [hn2, hmf] at h1
    cases h1
    have g1 := KX _ _ k1
    rw [g1] at h2
    cases h2
    rw [k2] at h3
    cases h3
    rw [k3] at h4
    cases h4
    have hc := PySem.W.CodeHd.of h5 h6
    exact ⟨P', h6.2, hc⟩
  obtain ⟨fd, cs, sp, hT, nT, C, hb, hsp, hF⟩ := F w mg fa _ Y KX G.T.g hmg own
  exact law_callTs KX G.T.g G.T.b G.T.builtins G.T.nolimit hg hT nT C G.T.bmain hobj hints (Nat.le_trans hlen hn2) hr hF hb (fun H hH hS => hsp H a ns hlen hbits hH hS) fun H e s' => hCX w H s₁ e s'
theorem ints_rp {K : PySem.W.Frag} {F : Hp} : ∀ ns : List Int, RpL K F (ns.map D.int) (ns.map V.int)
  | [] => rfl
  | n :: ns => ⟨.int n, _, rfl, rfl, ints_rp ns⟩
theorem start_law {K : PySem.W.Frag} {T : List Addr} {H : Hp} {a : Addr} {ns : List Int} {S : Prm} (hT : ∀ P ∈ T, H P = some (.tbl #[])) (hS : SqL K H a (ns.map V.int)) (h : S [.d (.scr (ns.map .int))] [] fun s _ => s = .d (.bl true)) :
    spOf K T S [.ref a] H (fun v _ => v = .bl true) fun _ _ _ => False := by
  refine ⟨fun b => if b ∈ T then none else H b, [], [], [.d (.scr (ns.map .int))], _, ⟨fun b o e => ?_, fun p hp => absurd hp (by simp), fun p hp => absurd hp (by simp), by simp, fun P hP => ⟨⟨#[], hT P hP, True.intro⟩, if_pos hP⟩, fun p hp => absurd hp (by simp)⟩, ⟨.ref a, [], rfl, ⟨a, ns.map V.int, rfl, ?_, ints_rp ns⟩, rfl⟩, h, ?_⟩
  · by_cases hb : b ∈ T
    · rw [if_pos hb] at e; cases e
    · rw [if_neg hb] at e; exact e
  · have na : ∀ u, H a = some u → (∀ ps, u ≠ .tbl ps) → a ∉ T := fun u e n z => by rw [hT a z] at e; exact n _ (Option.some.inj e).symm
    rcases hS with (hS | ⟨o, hS⟩) | hS
    · exact .inl (.inl ((if_neg (na _ hS (by intro ps z; cases z))).trans hS))
    · exact .inl (.inr ⟨o, (if_neg (na _ hS (by intro ps z; cases z))).trans hS⟩)
    · exact .inr hS
  · rintro v s F' O' H' _ _ r rfl
    exact r
end Al
end
section
set_option Elab.async false
set_option linter.all false
set_option maxRecDepth 100000
set_option maxHeartbeats 2000000
/-! < of tuples, the items behind the first unlike place left unasked. -/
namespace PySem.SeqAt
open PySem PySem.Spec PyProof.Rows
theorem tuple_ltOne (l b : Addr) (items items2 : Array Value) (n n2 : Nat) (dd dd2 : Option Addr) (sl sl2 : Array (Option Value)) (e r : Nat → Bool) :
    Meets (Builtin.«tuple.__lt__» ⟨[.ref l, .ref b], []⟩)
      (fun A R s => s.heap.get? l = some { cls := .type "tuple", dict := dd, data := .seq items n, slots := sl } ∧ s.heap.get? b = some { cls := .type "tuple", dict := dd2, data := .seq items2 n2, slots := sl2 } ∧
        (∀ j (h1 : j < items.size) (h2 : j < items2.size), EqAt A.in1 s items[j] items2[j] (e j)) ∧ (∀ j (h1 : j < items.size) (h2 : j < items2.size), (∀ m, m < j → e m = true) → e j = false → RcLt A.in1 s items[j] items2[j] (r j)) ∧
        R (.ok (.ret (.bool (firstLt e r (decide (items.size < items2.size)) (List.range (min items.size items2.size)))))) s) :=
  .of_wp fun prog w A R s h => by
    obtain ⟨hp, g, d, tk, os⟩ := s; obtain ⟨hl, hb, he, hr, h⟩ := h
    have f2 := AutoSeq1.sub_tuple_tuple
    have hZ : (items.toList.zip items2.toList).length = min items.size items2.size := by simp
    wp_walk using wpAny_loadPart' hl, wpAny_loadPart' hb, wpAny_forIn_list _ (fun rest b s' => b.1 = none ∧ s' = ⟨hp, g, d, tk, os⟩ ∧ ∃ i, rest = (items.toList.zip items2.toList).drop i ∧ (∀ m, m < i → e m = true) ∧
      R (.ok (.ret (.bool (firstLt e r (decide (items.size < items2.size)) ((List.range (min items.size items2.size)).drop i))))) ⟨hp, g, d, tk, os⟩) _
    case turn =>
      rintro ⟨y, x⟩ rest b s' ⟨hb', rfl, i, hz, hpre, hR⟩
      have hlt : i < (items.toList.zip items2.toList).length := by
        rcases Nat.lt_or_ge i (items.toList.zip items2.toList).length with h' | h'
        · exact h'
        · rw [List.drop_of_length_le h'] at hz; cases hz
      have hm : i < min items.size items2.size := hZ ▸ hlt
      have h1 : i < items.size := Nat.lt_of_lt_of_le hm (Nat.min_le_left _ _)
      have h2 : i < items2.size := Nat.lt_of_lt_of_le hm (Nat.min_le_right _ _)
      rw [List.drop_eq_getElem_cons hlt] at hz
      injection hz with hyx hrest
      have hy : y = items[i] := by have := congrArg Prod.fst hyx; simpa using this
      have hx : x = items2[i] := by have := congrArg Prod.snd hyx; simpa using this
      subst hy hx
      have hd : (List.range (min items.size items2.size)).drop i = i :: (List.range (min items.size items2.size)).drop (i + 1) := by simp [List.drop_eq_getElem_cons, hm]
      rw [hd] at hR
      refine wpAny_bind (he i h1 h2 prog w _ _ ?_)
      cases hy : e i with
      | true =>
        rw [firstLt_yes hy] at hR
        wp_walk
        refine ⟨rfl, rfl, i + 1, hrest, fun m hm => ?_, hR⟩
        rcases Nat.lt_succ_iff_lt_or_eq.mp hm with q | q
        · exact hpre m q
        · rw [q]; exact hy
      | false =>
        rw [firstLt_no hy] at hR
        generalize hRC : PySem.richCompare = RC
        wp_walk
        subst hRC
        refine hr i h1 h2 hpre hy prog w _ _ ?_
        wp_walk
        exact ⟨_, rfl, hR⟩
    case fin =>
      rintro ⟨b1, b2⟩ s' ⟨hb', rfl, i, hz, hpre, hR⟩
      simp only at hb'
      subst hb'
      have hge : min items.size items2.size ≤ i := by
        rcases Nat.lt_or_ge i (items.toList.zip items2.toList).length with h' | h'
        · rw [List.drop_eq_getElem_cons h'] at hz; cases hz
        · exact hZ ▸ h'
      rw [List.drop_of_length_le (by simpa using hge)] at hR
      wp_walk
      exact ⟨_, rfl, by simpa [Builtin.Tuple.tupleCompareSizes, firstLt] using hR⟩
    case h =>
      exact ⟨rfl, rfl, 0, rfl, fun m hm => absurd hm (Nat.not_lt_zero m), by simpa using h⟩
theorem RcLt.tuplesOne {A : Around} {s : Shared} {l b : Addr} {items items2 : Array Value} {e r : Nat → Bool} (hl : s.heap.IsTuple l items) (hb : s.heap.IsTuple b items2) (hu : A.units < cLine)
    (he : ∀ j (h1 : j < items.size) (h2 : j < items2.size), EqAt A.in1 s items[j] items2[j] (e j)) (hr : ∀ j (h1 : j < items.size) (h2 : j < items2.size), (∀ m, m < j → e m = true) → e j = false → RcLt A.in1 s items[j] items2[j] (r j)) :
    RcLt A s (.ref l) (.ref b) (firstLt e r (decide (items.size < items2.size)) (List.range (min items.size items2.size))) := fun prog w E Q h => by
  obtain ⟨⟨cls, dd, data, sl⟩, ho, hc, n, hd⟩ := id hl
  obtain ⟨⟨cls2, dd2, data2, sl2⟩, ho2, hc2, n2, hd2⟩ := id hb
  simp only at hc hd hc2 hd2
  subst hc hd hc2 hd2
  exact richCompare_meets_room (op := .Lt) ⟨_, ho, rfl⟩ ⟨_, ho2, rfl⟩ F.slot_tuple_lt F.entry_tuple_lt (F.args_tuple_lt_2 _ _) (tuple_ltOne l b items items2 n n2 dd dd2 sl sl2 e r)
    ⟨ho, ho2, he, hr, show _ from ⟨(fun x => nomatch x), h⟩⟩ hu
mutual
def ltP : PyData → PyData → Option Bool
  | .int x, .int y => some (decide (x < y))
  | .str x, .str y => some (decide (x.cps.toList < y.cps.toList))
  | .tuple xs, .tuple ys => ltPs xs ys
  | _, _ => none
def ltPs : List PyData → List PyData → Option Bool
  | [], [] => some false
  | [], _ :: _ => some true
  | _ :: _, [] => some false
  | x :: xs, y :: ys => if PyData.eqv x y = true then ltPs xs ys else ltP x y
end
theorem lt_first : ∀ (xs ys : List PyData) (k : Bool) (j : Nat), ltPs xs ys = some k → (∀ m, m < j → pairEq xs ys m = true) → pairEq xs ys j = false → j < xs.length → j < ys.length → ∃ q, ltP (xs.getD j .none) (ys.getD j .none) = some q
  | [], _, _, _, _, _, _, h, _ => absurd h (Nat.not_lt_zero _)
  | _ :: _, [], _, _, _, _, _, _, h => absurd h (Nat.not_lt_zero _)
  | x :: xs, y :: ys, k, 0, h, _, he, _, _ => by
    have he : PyData.eqv x y = false := he
    rw [ltPs, if_neg (by rw [he]; exact Bool.false_ne_true)] at h
    exact ⟨k, h⟩
  | x :: xs, y :: ys, k, j + 1, h, hp, he, h1, h2 => by
    have h0 : PyData.eqv x y = true := hp 0 (Nat.succ_pos j)
    rw [ltPs, if_pos h0] at h
    exact lt_first xs ys k j h (fun m hm => hp (m + 1) (Nat.succ_lt_succ hm)) he (Nat.lt_of_succ_lt_succ h1) (Nat.lt_of_succ_lt_succ h2)
def ltR (xs ys : List PyData) (j : Nat) : Bool := (ltP (xs.getD j .none) (ys.getD j .none)).getD false
theorem range_cons (n : Nat) : List.range (n + 1) = 0 :: (List.range n).map Nat.succ := List.range_succ_eq_map
theorem firstLt_succ (e r : Nat → Bool) (fin : Bool) (f : Nat → Nat) : ∀ l : List Nat, firstLt e r fin (l.map f) = firstLt (fun j => e (f j)) (fun j => r (f j)) fin l
  | [] => rfl
  | j :: t => by
    rw [List.map_cons]
    cases q : e (f j) with
    | true => rw [firstLt_yes q, firstLt_yes (e := fun j => e (f j)) q, firstLt_succ e r fin f t]
    | false => rw [firstLt_no q, firstLt_no (e := fun j => e (f j)) q]
theorem firstLt_P : ∀ (xs ys : List PyData) (k : Bool), ltPs xs ys = some k → firstLt (pairEq xs ys) (ltR xs ys) (decide (xs.length < ys.length)) (List.range (min xs.length ys.length)) = k
  | [], [], k, h => by rw [ltPs] at h; cases h; rfl
  | [], y :: ys, k, h => by rw [ltPs] at h; cases h; simp [firstLt]
  | x :: xs, [], k, h => by rw [ltPs] at h; cases h; simp [firstLt]
  | x :: xs, y :: ys, k, h => by
    have em : min (x :: xs).length (y :: ys).length = min xs.length ys.length + 1 := by simp only [List.length_cons]; omega
    rw [em, range_cons]
    cases q : PyData.eqv x y with
    | true =>
      rw [ltPs, if_pos q] at h
      rw [firstLt_yes (show pairEq (x :: xs) (y :: ys) 0 = true from q), firstLt_succ]
      have := firstLt_P xs ys k h
      have ed : decide ((x :: xs).length < (y :: ys).length) = decide (xs.length < ys.length) := by simp
      rw [ed]
      exact this
    | false =>
      rw [ltPs, if_neg (by rw [q]; exact Bool.false_ne_true)] at h
      rw [firstLt_no (show pairEq (x :: xs) (y :: ys) 0 = false from q)]
      show (ltP x y).getD false = k
      rw [h]
      rfl
theorem plain_cons {x : PyData} {xs : List PyData} (h : PyData.plainAll (x :: xs) = true) : x.plain = true ∧ PyData.plainAll xs = true := by
  simpa [PyData.plainAll] using h
mutual
theorem rcLt_P : ∀ (da db : PyData) (A : Around) (s : Shared) (a b : Value) (as bs : List Addr) (k : Bool), Reads s.heap a da as → Reads s.heap b db bs → da.plain = true → db.plain = true → ltP da db = some k → A.units + min da.depth db.depth < cLine → RcLt A s a b k
  | .int x, db, A, s, a, b, as, bs, k, ra, rb, ha, hb, h, hu => by
    cases db with
    | int y =>
      cases ra
      cases rb
      intro prog w E Q hq
      rw [ltP] at h
      cases h
      exact P.lt_int hq
    | _ => simp [ltP] at h
  | .str x, db, A, s, a, b, as, bs, k, ra, rb, ha, hb, h, hu => by
    cases db with
    | str y =>
      cases ra
      cases rb
      intro prog w E Q hq
      rw [ltP] at h
      cases h
      exact P.lt_str hq
    | _ => simp [ltP] at h
  | .tuple xs, db, A, s, a, b, as, bs, k, ra, rb, ha, hb, h, hu => by
    cases db with
    | tuple ys =>
      have hx : PyData.plainAll xs = true := by simpa [PyData.plain] using ha
      have hy : PyData.plainAll ys = true := by simpa [PyData.plain] using hb
      rw [ltP] at h
      cases ra with
      | @tuple l o vs n _ as₁ h1 h2 h3 h4 =>
        cases rb with
        | @tuple l' o' vs' n' _ bs₁ k1 k2 k3 k4 =>
          have n1 : vs.size = xs.length := by simpa using ReadsAll.length _ _ _ h4
          have n2 : vs'.size = ys.length := by simpa using ReadsAll.length _ _ _ k4
          rw [← firstLt_P xs ys k h, ← n1, ← n2]
          refine RcLt.tuplesOne ⟨_, h1, h2, _, h3⟩ ⟨_, k1, k2, _, k3⟩ (room_here hu) (fun j j1 j2 => ?_) fun j j1 j2 hp hj => ?_
          · have := eqAt_plainAll xs ys A.in1 s vs.toList vs'.toList _ _ h4 k4 hx hy (room_in hu) j (by simpa using j1) (by simpa using j2)
            simpa using this
          · have hl : ∃ q, ltP (xs.getD j .none) (ys.getD j .none) = some q := lt_first xs ys k j h hp hj (by omega) (by omega)
            have := rcLt_Ps xs ys A.in1 s vs.toList vs'.toList _ _ h4 k4 hx hy (room_in hu) j (by simpa using j1) (by simpa using j2) hl
            simpa using this
    | _ => simp [ltP] at h
  | .none, _, _, _, _, _, _, _, _, _, _, _, _, h, _ => by simp [ltP] at h
  | .bool _, _, _, _, _, _, _, _, _, _, _, _, _, h, _ => by simp [ltP] at h
  | .list _, _, _, _, _, _, _, _, _, _, _, _, _, h, _ => by simp [ltP] at h
  | .dict _, _, _, _, _, _, _, _, _, _, _, _, _, h, _ => by simp [ltP] at h
theorem rcLt_Ps : ∀ (xs ys : List PyData) (A : Around) (s : Shared) (vs ws : List Value) (as bs : List Addr), ReadsAll s.heap vs xs as → ReadsAll s.heap ws ys bs → PyData.plainAll xs = true → PyData.plainAll ys = true →
    A.units + min (PyData.depthAll xs) (PyData.depthAll ys) < cLine → ∀ j (h1 : j < vs.length) (h2 : j < ws.length), (∃ q, ltP (xs.getD j .none) (ys.getD j .none) = some q) → RcLt A s vs[j] ws[j] (ltR xs ys j)
  | [], _, _, _, _, _, _, _, ra, _, _, _, _, j, h1, _, _ => by cases ra; exact absurd h1 (Nat.not_lt_zero _)
  | _ :: _, [], _, _, _, _, _, _, _, rb, _, _, _, j, _, h2, _ => by cases rb; exact absurd h2 (Nat.not_lt_zero _)
  | x :: xs, y :: ys, A, s, _, _, _, _, ra, rb, ha, hb, hu, j, h1, h2, hj => by
    cases ra with
    | cons r rs =>
      cases rb with
      | cons r' rs' =>
        cases j with
        | zero =>
          obtain ⟨q, hq⟩ := hj
          have hq : ltP x y = some q := hq
          have e : ltR (x :: xs) (y :: ys) 0 = q := by show (ltP x y).getD false = q; rw [hq]; rfl
          rw [e]
          exact rcLt_P x y A s _ _ _ _ q r r' (plain_cons ha).1 (plain_cons hb).1 hq (room_head hu)
        | succ j => exact rcLt_Ps xs ys A s _ _ _ _ rs rs' (plain_cons ha).2 (plain_cons hb).2 (room_tail hu) j (Nat.lt_of_succ_lt_succ h1) (Nat.lt_of_succ_lt_succ h2) hj
end
end PySem.SeqAt
end
section
set_option Elab.async false
set_option linter.all false
set_option maxRecDepth 100000
set_option maxHeartbeats 2000000
/-! < on data. -/
namespace Al
open PySem PySem.Spec PyProof.Rows L2
variable {K : PySem.W.Frag} {T : List Addr}
mutual
theorem plain_pd : ∀ (n : Nat) (x : D), plain n x = true → (pd x).plain = true
  | n, .non, _ => by simp [pd, PyData.plain]
  | n, .bl _, _ => by simp [pd, PyData.plain]
  | n, .int _, _ => by simp [pd, PyData.plain]
  | n, .str x, _ => by simp [pd, PyData.plain]
  | 0, .lst l, h => by simp [plain] at h
  | 0, .tup l, h => by simp [plain] at h
  | n + 1, .lst l, h => by
    simp only [plain] at h
    simpa [pd, PyData.plain] using plain_pdL n l h
  | n + 1, .tup l, h => by
    simp only [plain] at h
    simpa [pd, PyData.plain] using plain_pdL n l h
  | n, .dic, h => by cases n <;> simp [plain] at h
  | n, .raw _, h => by cases n <;> simp [plain] at h
  | n, .scr _, h => by cases n <;> simp [plain] at h
theorem plain_pdL : ∀ (n : Nat) (l : List D), plainL n l = true → PyData.plainAll (pdL l) = true
  | n, [], _ => by simp [pdL, PyData.plainAll]
  | n, d :: l, h => by
    simp only [plainL, Bool.and_eq_true] at h
    simp [pdL, PyData.plainAll, plain_pd n d h.1, plain_pdL n l h.2]
end
mutual
/-- < of data: numbers, texts, tuples -/
def ltD : D → D → Option Bool
  | .int x, .int y => some (decide (x < y))
  | .str x, .str y => some (decide (x.cps.toList < y.cps.toList))
  | .tup l, .tup m => ltDs l m
  | _, _ => none
def ltDs : List D → List D → Option Bool
  | [], [] => some false
  | [], _ :: _ => some true
  | _ :: _, [] => some false
  | x :: l, y :: m => if eqD x y = true then ltDs l m else ltD x y
end
mutual
theorem ltP_pd : ∀ (n m : Nat) (x y : D) (k : Bool), plain n x = true → plain m y = true → ltD x y = some k → SeqAt.ltP (pd x) (pd y) = some k
  | n, m, .int x, y, k, _, _, h => by
    cases y <;> simp_all [ltD, pd, SeqAt.ltP]
  | n, m, .str x, y, k, _, _, h => by
    cases y <;> simp_all [ltD, pd, SeqAt.ltP]
  | 0, m, .tup l, y, k, hx, _, h => by simp [plain] at hx
  | n + 1, m, .tup l, y, k, hx, hy, h => by
    cases y with
    | tup r =>
      cases m with
      | zero => simp [plain] at hy
      | succ m =>
        simp only [plain] at hx hy
        rw [ltD] at h
        rw [pd, pd, SeqAt.ltP]
        exact ltP_pdL n m l r k hx hy h
    | _ => simp [ltD] at h
  | n, m, .non, y, k, _, _, h => by simp [ltD] at h
  | n, m, .bl _, y, k, _, _, h => by simp [ltD] at h
  | n, m, .lst _, y, k, _, _, h => by simp [ltD] at h
  | n, m, .dic, y, k, _, _, h => by simp [ltD] at h
  | n, m, .raw _, y, k, _, _, h => by simp [ltD] at h
  | n, m, .scr _, y, k, _, _, h => by simp [ltD] at h
theorem ltP_pdL : ∀ (n m : Nat) (l r : List D) (k : Bool), plainL n l = true → plainL m r = true → ltDs l r = some k → SeqAt.ltPs (pdL l) (pdL r) = some k
  | n, m, [], [], k, _, _, h => by rw [ltDs] at h; rw [pdL, SeqAt.ltPs]; exact h
  | n, m, [], y :: r, k, _, _, h => by rw [ltDs] at h; rw [pdL, pdL, SeqAt.ltPs]; exact h
  | n, m, x :: l, [], k, _, _, h => by rw [ltDs] at h; rw [pdL, pdL, SeqAt.ltPs]; exact h
  | n, m, x :: l, y :: r, k, hx, hy, h => by
    simp only [plainL, Bool.and_eq_true] at hx hy
    rw [ltDs] at h
    rw [pdL, pdL, SeqAt.ltPs, eqv_pd n m x y hx.1 hy.1]
    by_cases q : eqD x y = true
    · rw [if_pos q] at h ⊢
      exact ltP_pdL n m l r k hx.2 hy.2 h
    · rw [if_neg q] at h ⊢
      exact ltP_pd n m x y k hx.1 hy.1 h
end
def rLtA (K : PySem.W.Frag) : R2 := fun x y H Q => ∃ d e k, Dp K H x d ∧ Dp K H y e ∧ d.plain = true ∧ e.plain = true ∧ d.depth ≤ 64 ∧ SeqAt.ltP d e = some k ∧ Q (.bl k) H
theorem op_ltA {X : Cx} (hu : X.A.units + 64 < cLine) : OpR X (compareOp .Lt) (rLtA X.K) := by
  intro pins s σ H x y v u Q I rx ry h
  obtain ⟨d, e, k, hd, he, pd1, pe1, hz, hk, q⟩ := h
  obtain ⟨as, r1⟩ := Dp.reads I d x v hd rx
  obtain ⟨bs, r2⟩ := Dp.reads I e y u he ry
  exact SeqAt.rcLt_P d e X.A s v u as bs k r1 r2 pd1 pe1 hk (by have := Nat.min_le_left d.depth e.depth; omega) X.prog X.w X.xe _ ⟨.bl k, H, I, rfl, q⟩
theorem rr_lt {n m : Nat} {x y : D} {k : Bool} {O : Own} {P : PV} (hx : plain n x = true) (hy : plain m y = true) (hn : n ≤ 64) (h : ltD x y = some k) (p : P (.d (.bl k)) O) : RunR K T (rLtA K) (.d x) (.d y) O P := fun F H Ξ vx vy w rx ry Q q =>
  ⟨pd x, pd y, k, dp_of w.ex n x vx hx rx, dp_of w.ex m y vy hy ry, plain_pd n x hx, plain_pd m y hy, by have := (canLay_pd n x hx).2; omega, ltP_pd n m x y k hx hy h, q _ (.d (.bl k)) F O H (Ex.refl F) w rfl p⟩
end Al
end
section
set_option Elab.async false
set_option linter.all false
set_option maxRecDepth 100000
set_option maxHeartbeats 2000000
/-! The rules with the written part named. -/
namespace Al
open PySem PySem.Spec PyProof.Rows L2
variable {X : Cx} {K : PySem.W.Frag}
theorem op_addAK (h : X.K = K) : OpR X (binaryOp .Add) (rAdd K) := by subst h; exact op_addA
theorem op_eqAK (h : X.K = K) (hu : X.A.units + 64 < cLine) : OpR X (compareOp .Eq) (rEqA K) := by subst h; exact op_eqA hu
theorem op_neAK (h : X.K = K) (hu : X.A.units + 64 < cLine) : OpR X (compareOp .NotEq) (rNeA K) := by subst h; exact op_neA hu
theorem op_ltAK (h : X.K = K) (hu : X.A.units + 64 < cLine) : OpR X (compareOp .Lt) (rLtA K) := by subst h; exact op_ltA hu
theorem op_inK (h : X.K = K) : OpR X (compareOp .In) (rIn K false) := by subst h; exact op_in_seq
theorem op_notInK (h : X.K = K) : OpR X (compareOp .NotIn) (rIn K true) := by subst h; exact op_notIn_seq
theorem ix_seqK (h : X.K = K) : IxR X (rIx K) := by subst h; exact ix_seq
theorem sl_anyK (h : X.K = K) : SlR X (rSl K) := by subst h; exact sl_any
theorem call_lenK (h : X.K = K) : CallR X (.builtin "len") (rLen K) := by subst h; exact call_len
theorem call_isiK2 (h : X.K = K) : CallR X (.builtin "isinstance") (rIsi K) := by subst h; exact call_isi
theorem call_listK (h : X.K = K) : CallR X (.type "list") (rListOf K) := by subst h; exact call_list_of
theorem call_tupleK (h : X.K = K) : CallR X (.type "tuple") (rTupOf K) := by subst h; exact call_tuple_of
theorem call_sortedSK (h : X.K = K) : CallR X (.builtin "sorted") (rSortedS K) := by subst h; exact cr_sortedS
theorem pi_seqK {tg l : Expr} {tl : TE} (h : X.K = K) (hl : PE X l tl) : PI X tg l (iSeq K tl) := by subst h; exact pi_seq hl
theorem pi_enumK {e : Expr} {ta : TA} {p pos tpos : Pos} {elts : List Expr} {kk : Nat} (h : X.K = K) (hg : Gl X "enumerate") (hm : X.mg "enumerate" = none) (ha : PA X [e] ta) (hs : starEach [e] X.env = [(false, eval e X.env)] := by rfl) :
    PI X (.Tuple elts kk tpos) (.Call (.Name "enumerate" p) [e] [] pos) (iEnumA K ta) := by subst h; exact pi_enumA hg hm ha hs
theorem pg_tupK {pos : Pos} {es : List Expr} {k : Nat} {t : TGs} {n : Nat} (h : X.K = K) (hc : X.calm = true) (hp : PGs X es t) (hn : (assignEach es X.env).length = n := by rfl) (hst : (assignEach es X.env).findIdx? (·.1) = none := by rfl) : PG X (.Tuple es k pos) (gTup K n t) := by subst h; exact pg_tup hc hp hn hst
theorem pt_truthK {e : Expr} {te : TE} (h : X.K = K) (ha : PE X e te) (he : ∀ whole, isTrue e X.env whole = (do let v ← whole; standAt e.pos; holding [v] (truthy v))) : PT X e (fun σ H Q => te σ H fun x H' => ∃ k, TruV K x H' k ∧ Q k H') := by subst h; exact pt_truth ha he
theorem ints_len (lo : Int) (n : Nat) : (Al.intsFrom lo n).length = n := by simp [Al.intsFrom]
theorem ints_get {lo : Int} {n i : Nat} {d : D} (h : (Al.intsFrom lo n)[i]? = some d) : i < n ∧ d = .int (lo + (i : Nat)) := by
  have hl := (List.getElem?_eq_some_iff.mp h).1
  rw [ints_len] at hl
  refine ⟨hl, ?_⟩
  unfold Al.intsFrom at h
  rw [List.getElem?_map, List.getElem?_range hl] at h
  exact (Option.some.inj h).symm
theorem re_ty {T : List Addr} {n : String} {ρ : Rho} {O : Own} {P : PV} (p : P (.d (.raw (.ty n))) O) : RunE K T (tC (.ty n)) ρ O P := re_raw p
/-- behind an expression an own object is let go -/
theorem re_dropPost {T : List Addr} {te : TE} {ρ : Rho} {O : Own} {P : PV} (h : RunE K T te ρ O fun s O' => ∃ q O2, O' = q :: O2 ∧ P s O2) : RunE K T te ρ O P := fun F H Ξ σ w e Q q => h F H Ξ σ w e Q fun v s F' O' H' e1 w1 r1 ⟨x, O2, ho, p⟩ => by
  subst ho
  exact q v s F' O2 H' e1 (Wd.drop (q := x) (O := O2 ++ Ξ) w1) r1 p
theorem pairs_len (l : List D) : (pairs l).length = l.length := by simp [pairs]
end Al
end
section
set_option Elab.async false
set_option linter.all false
set_option maxRecDepth 100000
set_option maxHeartbeats 2000000
/-! Tuples of texts and dicts of numbers that stand in the written part. -/
namespace Al
open PySem PySem.Spec PyProof.Rows L2
variable {K : PySem.W.Frag} {T : List Addr} {w : World}
def StrsOf : List Value → List Str → Prop
  | [], l => l = []
  | v :: vs, l => ∃ x t r, l = x :: r ∧ v = .str x t ∧ StrsOf vs r
theorem strsOf_vals : ∀ {vs : List Value} {l : List Str}, StrsOf vs l → Vals (l.map V.str) vs
  | [], l, h => by rw [show l = [] from h]; exact .nil
  | v :: vs, l, h => by
    obtain ⟨x, t, r, rfl, rfl, h2⟩ := h
    exact .cons ⟨t, rfl⟩ (strsOf_vals h2)
/-- a tuple of texts of the top -/
theorem kTup_of {a : Addr} {dd : Option Addr} {vs : Array Value} {n : Nat} {sl : Array (Option Value)} {l : List Str} (h : K.lookup a = some ⟨.type "tuple", dd, .seq vs n, sl⟩) (hz : vs.size ≤ 1000) (hs : StrsOf vs.toList l) : ∀ F, Rp K F (.tup (txts l)) (.ref a) := fun F =>
  ⟨a, l.map V.str, rfl, .inr ⟨_, vs, n, h, rfl, rfl, Nat.le_of_lt (small1000 hz), strsOf_vals hs⟩, rp_strs l⟩
/-! ### dicts -/
def EntsOf : List DictEntry → List (Str × Int) → Prop
  | [], l => l = []
  | e :: es, l => ∃ x t v u r, l = (x, v) :: r ∧ e.key = .str x t ∧ e.val = .int v u ∧ EntsOf es r
/-- a dict of numbers with text keys stands at a -/
def KInts (K : PySem.W.Frag) (w : World) (a : Addr) (kvs : List (Str × Int)) : Prop := ∃ es n, KDict K w a es n ∧ EntsOf es.toList kvs
def getS (kvs : List (Str × Int)) (z : Str) : Option Int := (kvs.find? fun p => p.1 == z).map (·.2)
theorem isStr_str (x z : Str) (t : Tok) : (Value.str x t).isStr z = (x == z) := by
  first
    | rfl
    | (rw [PySem.W.isStr_of]; rfl)
    | (unfold Value.isStr; simp)
theorem ents_find (z : Str) : ∀ {es : List DictEntry} {kvs : List (Str × Int)}, EntsOf es kvs →
    (∀ v, getS kvs z = some v → ∃ e u, es.find? (·.key.isStr z) = some e ∧ e.val = .int v u) ∧ (getS kvs z = none → es.find? (·.key.isStr z) = none) ∧ es.any (·.refKey) = false
  | [], kvs, h => by
    rw [show kvs = [] from h]
    exact ⟨fun v e => by simp [getS] at e, fun _ => rfl, rfl⟩
  | e :: es, kvs, h => by
    obtain ⟨x, t, v, u, r, rfl, hk, hv, hr⟩ := h
    obtain ⟨h1, h2, h3⟩ := ents_find z hr
    have hs : e.key.isStr z = (x == z) := by rw [hk]; exact isStr_str x z t
    have hrk : e.refKey = false := by unfold DictEntry.refKey; rw [hk]
    by_cases q : (x == z) = true
    · refine ⟨fun y hy => ?_, fun hy => ?_, by rw [List.any_cons, hrk, h3]; rfl⟩
      · have : getS ((x, v) :: r) z = some v := by simp [getS, List.find?_cons, q]
        rw [this] at hy
        cases hy
        exact ⟨e, u, by rw [List.find?_cons, hs, q], hv⟩
      · have : getS ((x, v) :: r) z = some v := by simp [getS, List.find?_cons, q]
        rw [this] at hy; cases hy
    · have q : (x == z) = false := by simpa using q
      have eg : getS ((x, v) :: r) z = getS r z := by simp [getS, List.find?_cons, q]
      have ef : (e :: es).find? (·.key.isStr z) = es.find? (·.key.isStr z) := by rw [List.find?_cons, hs, q]
      rw [eg, ef]
      exact ⟨h1, h2, by rw [List.any_cons, hrk, h3]; rfl⟩
theorem ns_ints {a : Addr} {kvs : List (Str × Int)} {es : Array DictEntry} {n : Nat} (D : KDict K w a es n) (h : EntsOf es.toList kvs) (z : Str) : ∃ r, PySem.W.nsIn K a z = some r ∧ r.isSome = (getS kvs z).isSome ∧ ∀ v, getS kvs z = some v → ∃ u, r = some (.int v u) := by
  obtain ⟨h1, h2, h3⟩ := ents_find z h
  unfold PySem.W.nsIn
  rw [D.at_]
  cases q : getS kvs z with
  | none =>
    refine ⟨none, ?_, rfl, fun v e => by cases e⟩
    show (match es.toList.find? (·.key.isStr z) with | some e => some (some e.val) | none => if es.toList.any (·.refKey) then none else some none) = _
    rw [h2 q, h3]
    rfl
  | some v =>
    obtain ⟨e, u, he, hv⟩ := h1 v q
    refine ⟨some (.int v u), ?_, rfl, fun y hy => ⟨u, by cases hy; rfl⟩⟩
    show (match es.toList.find? (·.key.isStr z) with | some e => some (some e.val) | none => if es.toList.any (·.refKey) then none else some none) = _
    rw [he, ← hv]
/-- text in d, text not in d -/
def rKIn (a : Addr) (kvs : List (Str × Int)) (neg : Bool) : R2 := fun x y H Q => ∃ z : Str, x = .str z ∧ y = .ref a ∧ Q (.bl (if neg then !(getS kvs z).isSome else (getS kvs z).isSome)) H
theorem op_inKD {X : Cx} {a : Addr} {kvs : List (Str × Int)} (h : KInts X.K X.w a kvs) : OpR X (compareOp .In) (rKIn a kvs false) := by
  obtain ⟨es, n, D, hs⟩ := h
  intro pins s σ H x y v u Q I rx ry q
  obtain ⟨z, rfl, rfl, q⟩ := q
  obtain ⟨r, h1, h2, _⟩ := ns_ints D hs z
  exact op_in_kd D pins s σ H _ _ v u Q I rx ry ⟨z, r, rfl, rfl, h1, by rw [h2]; exact q⟩
theorem op_notInKD {X : Cx} {a : Addr} {kvs : List (Str × Int)} (h : KInts X.K X.w a kvs) : OpR X (compareOp .NotIn) (rKIn a kvs true) := by
  obtain ⟨es, n, D, hs⟩ := h
  intro pins s σ H x y v u Q I rx ry q
  obtain ⟨z, rfl, rfl, q⟩ := q
  obtain ⟨r, h1, h2, _⟩ := ns_ints D hs z
  exact op_notIn_kd D pins s σ H _ _ v u Q I rx ry ⟨z, r, rfl, rfl, h1, by rw [h2]; exact q⟩
theorem rr_kin {neg : Bool} {a : Addr} {kvs : List (Str × Int)} {z : Str} {O : Own} {P : PV} (p : P (.d (.bl (if neg then !(getS kvs z).isSome else (getS kvs z).isSome))) O) : RunR K T (rKIn a kvs neg) (.d (.str z)) (.d (.raw (.ref a))) O P := fun F H Ξ vx vy w rx ry Q q =>
  ⟨z, rx, ry, q _ (.d (.bl _)) F O H (Ex.refl F) w rfl p⟩
/-- d[text], there -/
def rKGet (a : Addr) (kvs : List (Str × Int)) : R2 := fun x y H Q => ∃ (z : Str) (v : Int), x = .ref a ∧ y = .str z ∧ getS kvs z = some v ∧ Q (.int v) H
theorem ix_KD {X : Cx} {a : Addr} {kvs : List (Str × Int)} (h : KInts X.K X.w a kvs) : IxR X (rKGet a kvs) := by
  obtain ⟨es, n, D, hs⟩ := h
  intro value slice pins s σ H x y v u Q I rx ry q hp
  obtain ⟨z, i, rfl, rfl, hg, q⟩ := q
  obtain ⟨r, h1, _, h3⟩ := ns_ints D hs z
  obtain ⟨t, rfl⟩ := h3 i hg
  exact ix_kdict value slice pins s σ H _ _ v u Q I rx ry ⟨a, z, .int i, rfl, rfl, ⟨es, n, _, D.at_, D.lit, h1, ⟨t, rfl⟩⟩, q⟩ hp
theorem rr_kget {a : Addr} {kvs : List (Str × Int)} {z : Str} {v : Int} {O : Own} {P : PV} (h : getS kvs z = some v) (p : P (.d (.int v)) O) : RunR K T (rKGet a kvs) (.d (.raw (.ref a))) (.d (.str z)) O P := fun F H Ξ vx vy w rx ry Q q =>
  ⟨z, v, rx, ry, h, q _ (.d (.int v)) F O H (Ex.refl F) w rfl p⟩
theorem ri_imp {wi : TI} {ρ : Rho} {O : Own} {P P' : List D → Own → Prop} (h : RunI K T wi ρ O P) (k : ∀ items O', P items O' → P' items O') : RunI K T wi ρ O P' := fun F H Ξ σ w e R r => h F H Ξ σ w e R fun J items F' O' H' a b c d => r J items F' O' H' a b c (k items O' d)
end Al
end
section
set_option Elab.async false
set_option linter.all false
set_option maxRecDepth 100000
set_option maxHeartbeats 2000000
namespace K0
open PySem PySem.Spec PyProof.Rows L2 Al
def topS (i : Nat) : Stmt := PySem.Challenge.pw_alongall_k01_what_weaves_tell.main.body.getD i (.Pass ⟨0, 0, 0, 0⟩)
abbrev s_is_ascending : Stmt := topS 7
theorem sc_is_ascending : FnScope ["row"] ["row"] (defScope s_is_ascending) := ⟨rfl, rfl, rfl, by decide +kernel, rfl, by decide +kernel, by decide +kernel⟩
abbrev s_head_of : Stmt := topS 8
theorem sc_head_of : FnScope ["thing"] ["thing"] (defScope s_head_of) := ⟨rfl, rfl, rfl, by decide +kernel, rfl, by decide +kernel, by decide +kernel⟩
abbrev s_is_name : Stmt := topS 12
theorem sc_is_name : FnScope ["thing"] ["thing"] (defScope s_is_name) := ⟨rfl, rfl, rfl, by decide +kernel, rfl, by decide +kernel, by decide +kernel⟩
abbrev s_is_scope : Stmt := topS 14
theorem sc_is_scope : FnScope ["thing"] ["thing"] (defScope s_is_scope) := ⟨rfl, rfl, rfl, by decide +kernel, rfl, by decide +kernel, by decide +kernel⟩
abbrev s_need_scope : Stmt := topS 15
theorem sc_need_scope : FnScope ["scope"] ["scope"] (defScope s_need_scope) := ⟨rfl, rfl, rfl, by decide +kernel, rfl, by decide +kernel, by decide +kernel⟩
abbrev s_letter_row : Stmt := topS 16
theorem sc_letter_row : FnScope ["scope", "row", "number", "at", "name"] ["scope"] (defScope s_letter_row) := ⟨rfl, rfl, rfl, by decide +kernel, rfl, by decide +kernel, by decide +kernel⟩
abbrev s_is_letter : Stmt := topS 17
theorem sc_is_letter : FnScope ["scope", "thing"] ["scope", "thing"] (defScope s_is_letter) := ⟨rfl, rfl, rfl, by decide +kernel, rfl, by decide +kernel, by decide +kernel⟩
abbrev s_parts_of : Stmt := topS 22
theorem sc_parts_of : FnScope ["weave"] ["weave"] (defScope s_parts_of) := ⟨rfl, rfl, rfl, by decide +kernel, rfl, by decide +kernel, by decide +kernel⟩
abbrev s_is_knot : Stmt := topS 23
theorem sc_is_knot : FnScope ["scope", "thing", "head"] ["scope", "thing"] (defScope s_is_knot) := ⟨rfl, rfl, rfl, by decide +kernel, rfl, by decide +kernel, by decide +kernel⟩
abbrev s_nodes_at_most : Stmt := topS 24
theorem sc_nodes_at_most : FnScope ["scope", "thing", "deep", "most", "nodes", "part", "more"] ["scope", "thing", "deep", "most"] (defScope s_nodes_at_most) := ⟨rfl, rfl, rfl, by decide +kernel, rfl, by decide +kernel, by decide +kernel⟩
abbrev s_is_weave : Stmt := topS 25
theorem sc_is_weave : FnScope ["scope", "thing"] ["scope", "thing"] (defScope s_is_weave) := ⟨rfl, rfl, rfl, by decide +kernel, rfl, by decide +kernel, by decide +kernel⟩
abbrev s_need_weave : Stmt := topS 26
theorem sc_need_weave : FnScope ["scope", "weave"] ["scope", "weave"] (defScope s_need_weave) := ⟨rfl, rfl, rfl, by decide +kernel, rfl, by decide +kernel, by decide +kernel⟩
abbrev s_node_count : Stmt := topS 27
theorem sc_node_count : FnScope ["weave"] ["weave"] (defScope s_node_count) := ⟨rfl, rfl, rfl, by decide +kernel, rfl, by decide +kernel, by decide +kernel⟩
abbrev s_size : Stmt := topS 28
theorem sc_size : FnScope ["scope", "weave"] ["scope", "weave"] (defScope s_size) := ⟨rfl, rfl, rfl, by decide +kernel, rfl, by decide +kernel, by decide +kernel⟩
abbrev s_letters_below : Stmt := topS 29
theorem sc_letters_below : FnScope ["weave", "found", "part"] ["weave"] (defScope s_letters_below) := ⟨rfl, rfl, rfl, by decide +kernel, rfl, by decide +kernel, by decide +kernel⟩
abbrev s_letters_in : Stmt := topS 30
theorem sc_letters_in : FnScope ["scope", "weave", "found", "letter"] ["scope", "weave"] (defScope s_letters_in) := ⟨rfl, rfl, rfl, by decide +kernel, rfl, by decide +kernel, by decide +kernel⟩
abbrev s_place_count : Stmt := topS 31
theorem sc_place_count : FnScope ["weave", "counts", "part"] ["weave"] (defScope s_place_count) := ⟨rfl, rfl, rfl, by decide +kernel, rfl, by decide +kernel, by decide +kernel⟩
abbrev s_length : Stmt := topS 32
theorem sc_length : FnScope ["scope", "weave"] ["scope", "weave"] (defScope s_length) := ⟨rfl, rfl, rfl, by decide +kernel, rfl, by decide +kernel, by decide +kernel⟩
abbrev s_spelled : Stmt := topS 33
theorem sc_spelled : FnScope ["scope", "weave"] ["scope", "weave"] (defScope s_spelled) := ⟨rfl, rfl, rfl, by decide +kernel, rfl, by decide +kernel, by decide +kernel⟩
abbrev s_in_row : Stmt := topS 34
theorem sc_in_row : FnScope ["weaves", "whole", "weave"] ["weaves"] (defScope s_in_row) := ⟨rfl, rfl, rfl, by decide +kernel, rfl, by decide +kernel, by decide +kernel⟩
abbrev s_written : Stmt := topS 35
theorem sc_written : FnScope ["scope", "row", "letter"] ["scope", "row"] (defScope s_written) := ⟨rfl, rfl, rfl, by decide +kernel, rfl, by decide +kernel, by decide +kernel⟩
abbrev s_law_begun : Stmt := topS 37
theorem sc_law_begun : FnScope ["script", "wide", "grain"] ["script"] (defScope s_law_begun) := ⟨rfl, rfl, rfl, by decide +kernel, rfl, by decide +kernel, by decide +kernel⟩
abbrev s_law_mixed : Stmt := topS 38
theorem sc_law_mixed : FnScope ["draw", "turn", "found", "prime", "blend", "grain"] ["draw"] (defScope s_law_mixed) := ⟨rfl, rfl, rfl, by decide +kernel, rfl, by decide +kernel, by decide +kernel⟩
abbrev s_law_take : Stmt := topS 39
theorem sc_law_take : FnScope ["draw", "many", "found"] ["draw", "many"] (defScope s_law_take) := ⟨rfl, rfl, rfl, by decide +kernel, rfl, by decide +kernel, by decide +kernel⟩
abbrev s_law_pick : Stmt := topS 40
theorem sc_law_pick : FnScope ["draw", "some"] ["draw", "some"] (defScope s_law_pick) := ⟨rfl, rfl, rfl, by decide +kernel, rfl, by decide +kernel, by decide +kernel⟩
abbrev s_law_shuffled : Stmt := topS 41
theorem sc_law_shuffled : FnScope ["draw", "some", "left", "found"] ["draw", "some"] (defScope s_law_shuffled) := ⟨rfl, rfl, rfl, by decide +kernel, rfl, by decide +kernel, by decide +kernel⟩
abbrev s_law_caught : Stmt := topS 42
theorem sc_law_caught : FnScope ["work", "error", "caught"] ["work"] (defScope s_law_caught) := ⟨rfl, rfl, rfl, by decide +kernel, rfl, by decide +kernel, by decide +kernel⟩
abbrev s_law_names : Stmt := topS 43
theorem sc_law_names : FnScope ["draw", "many", "some", "one", "other", "stem"] ["draw", "many"] (defScope s_law_names) := ⟨rfl, rfl, rfl, by decide +kernel, rfl, by decide +kernel, by decide +kernel⟩
abbrev s_law_scope : Stmt := topS 44
theorem sc_law_scope : FnScope ["draw", "most"] ["draw", "most"] (defScope s_law_scope) := ⟨rfl, rfl, rfl, by decide +kernel, rfl, by decide +kernel, by decide +kernel⟩
abbrev s_law_letters : Stmt := topS 45
theorem sc_law_letters : FnScope ["scope", "found", "name", "letter"] ["scope"] (defScope s_law_letters) := ⟨rfl, rfl, rfl, by decide +kernel, rfl, by decide +kernel, by decide +kernel⟩
abbrev s_law_once : Stmt := topS 46
theorem sc_law_once : FnScope ["some", "found", "one"] ["some"] (defScope s_law_once) := ⟨rfl, rfl, rfl, by decide +kernel, rfl, by decide +kernel, by decide +kernel⟩
abbrev s_law_weave : Stmt := topS 47
theorem sc_law_weave : FnScope ["draw", "scope", "left", "chance", "one", "some", "k"] ["draw", "scope", "left"] (defScope s_law_weave) := ⟨rfl, rfl, rfl, by decide +kernel, rfl, by decide +kernel, by decide +kernel⟩
abbrev s_law_inner : Stmt := topS 48
theorem sc_law_inner : FnScope ["weave"] ["weave"] (defScope s_law_inner) := ⟨rfl, rfl, rfl, by decide +kernel, rfl, by decide +kernel, by decide +kernel⟩
abbrev s_law_nodes : Stmt := topS 49
theorem sc_law_nodes : FnScope ["weave", "found", "k", "part", "path"] ["weave"] (defScope s_law_nodes) := ⟨rfl, rfl, rfl, by decide +kernel, rfl, by decide +kernel, by decide +kernel⟩
abbrev s_law_at : Stmt := topS 50
theorem sc_law_at : FnScope ["weave", "path", "k"] ["weave", "path"] (defScope s_law_at) := ⟨rfl, rfl, rfl, by decide +kernel, rfl, by decide +kernel, by decide +kernel⟩
abbrev s_law_told : Stmt := topS 51
theorem sc_law_told : FnScope ["weave", "word", "parts", "part", "told", "found"] ["weave"] (defScope s_law_told) := ⟨rfl, rfl, rfl, by decide +kernel, rfl, by decide +kernel, by decide +kernel⟩
abbrev s_law_bad_weave : Stmt := topS 52
theorem sc_law_bad_weave : FnScope ["draw", "scope", "one", "some"] ["draw", "scope"] (defScope s_law_bad_weave) := ⟨rfl, rfl, rfl, by decide +kernel, rfl, by decide +kernel, by decide +kernel⟩
abbrev s_law : Stmt := topS 53
theorem sc_law : FnScope ["script", "draw", "turn", "scope", "weave", "told", "borne", "path", "due", "x", "many", "row", "k", "line", "bad", "off", "work", "odd"] ["script"] (defScope s_law) := ⟨rfl, rfl, rfl, by decide +kernel, rfl, by decide +kernel, by decide +kernel⟩
/-- where the defs stand -/
structure Ad where
  (f_is_ascending c_is_ascending p_is_ascending f_head_of c_head_of p_head_of f_is_name c_is_name p_is_name f_is_scope c_is_scope p_is_scope f_need_scope c_need_scope p_need_scope f_letter_row c_letter_row p_letter_row f_is_letter c_is_letter p_is_letter f_parts_of c_parts_of p_parts_of f_is_knot c_is_knot p_is_knot f_nodes_at_most c_nodes_at_most p_nodes_at_most f_is_weave c_is_weave p_is_weave f_need_weave c_need_weave p_need_weave f_node_count c_node_count p_node_count f_size c_size p_size f_letters_below c_letters_below p_letters_below f_letters_in c_letters_in p_letters_in f_place_count c_place_count p_place_count f_length c_length p_length f_spelled c_spelled p_spelled f_in_row c_in_row p_in_row f_written c_written p_written f_law_begun c_law_begun p_law_begun f_law_mixed c_law_mixed p_law_mixed f_law_take c_law_take p_law_take f_law_pick c_law_pick p_law_pick f_law_shuffled c_law_shuffled p_law_shuffled f_law_caught c_law_caught p_law_caught f_law_names c_law_names p_law_names f_law_scope c_law_scope p_law_scope f_law_letters c_law_letters p_law_letters f_law_once c_law_once p_law_once f_law_weave c_law_weave p_law_weave f_law_inner c_law_inner p_law_inner f_law_nodes c_law_nodes p_law_nodes f_law_at c_law_at p_law_at f_law_told c_law_told p_law_told f_law_bad_weave c_law_bad_weave p_law_bad_weave f_law c_law p_law : Addr)
  (d_is_ascending d_head_of d_is_name d_is_scope d_need_scope d_letter_row d_is_letter d_parts_of d_is_knot d_nodes_at_most d_is_weave d_need_weave d_node_count d_size d_letters_below d_letters_in d_place_count d_length d_spelled d_in_row d_written d_law_begun d_law_mixed d_law_take d_law_pick d_law_shuffled d_law_caught d_law_names d_law_scope d_law_letters d_law_once d_law_weave d_law_inner d_law_nodes d_law_at d_law_told d_law_bad_weave d_law : FuncData)
  (C_OrderError C_BadLetters C_BadScope C_BadWeave C_NotFinite o_KEPT o_SHAPES : Addr)
/-- what the top has written -/
structure Txt (K : PySem.W.Frag) (mg : Str → Option Value) (base : Heap) (a : Ad) : Prop where
  m_abs : mg "abs" = none
  m_all : mg "all" = none
  m_enumerate : mg "enumerate" = none
  m_int : mg "int" = none
  m_isinstance : mg "isinstance" = none
  m_len : mg "len" = none
  m_list : mg "list" = none
  m_min : mg "min" = none
  m_range : mg "range" = none
  m_repr : mg "repr" = none
  m_reversed : mg "reversed" = none
  m_sorted : mg "sorted" = none
  m_str : mg "str" = none
  m_sum : mg "sum" = none
  m_tuple : mg "tuple" = none
  g_KEPT : mg "KEPT" = some (.ref a.o_KEPT)
  g_LETTERS_OF_NAMES : ∃ t, mg "LETTERS_OF_NAMES" = some (.str "abcdefghijklmnopqrstuvwxyz" t)
  g_MOST_NODES : ∃ t, mg "MOST_NODES" = some (.int 400 t)
  g_MOST_DEEP : ∃ t, mg "MOST_DEEP" = some (.int 60 t)
  g_SHAPES : mg "SHAPES" = some (.ref a.o_SHAPES)
  g_OrderError : mg "OrderError" = some (.ref a.C_OrderError)
  g_BadLetters : mg "BadLetters" = some (.ref a.C_BadLetters)
  g_BadScope : mg "BadScope" = some (.ref a.C_BadScope)
  g_BadWeave : mg "BadWeave" = some (.ref a.C_BadWeave)
  g_NotFinite : mg "NotFinite" = some (.ref a.C_NotFinite)
  F_is_ascending : FunT K "is_ascending" s_is_ascending a.f_is_ascending a.d_is_ascending a.c_is_ascending
  g_is_ascending : mg "is_ascending" = some (.ref a.f_is_ascending)
  b_is_ascending : Binds K a.d_is_ascending ["row"] []
  B_is_ascending : GxR.TabB base mg a.c_is_ascending a.p_is_ascending
  F_head_of : FunT K "head_of" s_head_of a.f_head_of a.d_head_of a.c_head_of
  g_head_of : mg "head_of" = some (.ref a.f_head_of)
  b_head_of : Binds K a.d_head_of ["thing"] []
  F_is_name : FunT K "is_name" s_is_name a.f_is_name a.d_is_name a.c_is_name
  g_is_name : mg "is_name" = some (.ref a.f_is_name)
  b_is_name : Binds K a.d_is_name ["thing"] []
  B_is_name : GxR.TabB base mg a.c_is_name a.p_is_name
  F_is_scope : FunT K "is_scope" s_is_scope a.f_is_scope a.d_is_scope a.c_is_scope
  g_is_scope : mg "is_scope" = some (.ref a.f_is_scope)
  b_is_scope : Binds K a.d_is_scope ["thing"] []
  B_is_scope : GxR.TabB base mg a.c_is_scope a.p_is_scope
  F_need_scope : FunT K "need_scope" s_need_scope a.f_need_scope a.d_need_scope a.c_need_scope
  g_need_scope : mg "need_scope" = some (.ref a.f_need_scope)
  b_need_scope : Binds K a.d_need_scope ["scope"] []
  F_letter_row : FunT K "letter_row" s_letter_row a.f_letter_row a.d_letter_row a.c_letter_row
  g_letter_row : mg "letter_row" = some (.ref a.f_letter_row)
  b_letter_row : Binds K a.d_letter_row ["scope"] []
  F_is_letter : FunT K "is_letter" s_is_letter a.f_is_letter a.d_is_letter a.c_is_letter
  g_is_letter : mg "is_letter" = some (.ref a.f_is_letter)
  b_is_letter : Binds K a.d_is_letter ["scope", "thing"] []
  B_is_letter : GxR.TabB base mg a.c_is_letter a.p_is_letter
  F_parts_of : FunT K "parts_of" s_parts_of a.f_parts_of a.d_parts_of a.c_parts_of
  g_parts_of : mg "parts_of" = some (.ref a.f_parts_of)
  b_parts_of : Binds K a.d_parts_of ["weave"] []
  F_is_knot : FunT K "is_knot" s_is_knot a.f_is_knot a.d_is_knot a.c_is_knot
  g_is_knot : mg "is_knot" = some (.ref a.f_is_knot)
  b_is_knot : Binds K a.d_is_knot ["scope", "thing"] []
  F_nodes_at_most : FunT K "nodes_at_most" s_nodes_at_most a.f_nodes_at_most a.d_nodes_at_most a.c_nodes_at_most
  g_nodes_at_most : mg "nodes_at_most" = some (.ref a.f_nodes_at_most)
  b_nodes_at_most : Binds K a.d_nodes_at_most ["scope", "thing", "deep", "most"] []
  F_is_weave : FunT K "is_weave" s_is_weave a.f_is_weave a.d_is_weave a.c_is_weave
  g_is_weave : mg "is_weave" = some (.ref a.f_is_weave)
  b_is_weave : Binds K a.d_is_weave ["scope", "thing"] []
  F_need_weave : FunT K "need_weave" s_need_weave a.f_need_weave a.d_need_weave a.c_need_weave
  g_need_weave : mg "need_weave" = some (.ref a.f_need_weave)
  b_need_weave : Binds K a.d_need_weave ["scope", "weave"] []
  F_node_count : FunT K "node_count" s_node_count a.f_node_count a.d_node_count a.c_node_count
  g_node_count : mg "node_count" = some (.ref a.f_node_count)
  b_node_count : Binds K a.d_node_count ["weave"] []
  B_node_count : GxR.TabB base mg a.c_node_count a.p_node_count
  F_size : FunT K "size" s_size a.f_size a.d_size a.c_size
  g_size : mg "size" = some (.ref a.f_size)
  b_size : Binds K a.d_size ["scope", "weave"] []
  F_letters_below : FunT K "letters_below" s_letters_below a.f_letters_below a.d_letters_below a.c_letters_below
  g_letters_below : mg "letters_below" = some (.ref a.f_letters_below)
  b_letters_below : Binds K a.d_letters_below ["weave"] []
  F_letters_in : FunT K "letters_in" s_letters_in a.f_letters_in a.d_letters_in a.c_letters_in
  g_letters_in : mg "letters_in" = some (.ref a.f_letters_in)
  b_letters_in : Binds K a.d_letters_in ["scope", "weave"] []
  F_place_count : FunT K "place_count" s_place_count a.f_place_count a.d_place_count a.c_place_count
  g_place_count : mg "place_count" = some (.ref a.f_place_count)
  b_place_count : Binds K a.d_place_count ["weave"] []
  B_place_count : GxR.TabB base mg a.c_place_count a.p_place_count
  F_length : FunT K "length" s_length a.f_length a.d_length a.c_length
  g_length : mg "length" = some (.ref a.f_length)
  b_length : Binds K a.d_length ["scope", "weave"] []
  F_spelled : FunT K "spelled" s_spelled a.f_spelled a.d_spelled a.c_spelled
  g_spelled : mg "spelled" = some (.ref a.f_spelled)
  b_spelled : Binds K a.d_spelled ["scope", "weave"] []
  F_in_row : FunT K "in_row" s_in_row a.f_in_row a.d_in_row a.c_in_row
  g_in_row : mg "in_row" = some (.ref a.f_in_row)
  b_in_row : Binds K a.d_in_row ["weaves"] []
  F_written : FunT K "written" s_written a.f_written a.d_written a.c_written
  g_written : mg "written" = some (.ref a.f_written)
  b_written : Binds K a.d_written ["scope", "row"] []
  B_written : GxR.TabB base mg a.c_written a.p_written
  F_law_begun : FunT K "_law_begun" s_law_begun a.f_law_begun a.d_law_begun a.c_law_begun
  g_law_begun : mg "_law_begun" = some (.ref a.f_law_begun)
  b_law_begun : Binds K a.d_law_begun ["script"] []
  F_law_mixed : FunT K "_law_mixed" s_law_mixed a.f_law_mixed a.d_law_mixed a.c_law_mixed
  g_law_mixed : mg "_law_mixed" = some (.ref a.f_law_mixed)
  b_law_mixed : Binds K a.d_law_mixed ["draw"] []
  F_law_take : FunT K "_law_take" s_law_take a.f_law_take a.d_law_take a.c_law_take
  g_law_take : mg "_law_take" = some (.ref a.f_law_take)
  b_law_take : Binds K a.d_law_take ["draw", "many"] []
  F_law_pick : FunT K "_law_pick" s_law_pick a.f_law_pick a.d_law_pick a.c_law_pick
  g_law_pick : mg "_law_pick" = some (.ref a.f_law_pick)
  b_law_pick : Binds K a.d_law_pick ["draw", "some"] []
  F_law_shuffled : FunT K "_law_shuffled" s_law_shuffled a.f_law_shuffled a.d_law_shuffled a.c_law_shuffled
  g_law_shuffled : mg "_law_shuffled" = some (.ref a.f_law_shuffled)
  b_law_shuffled : Binds K a.d_law_shuffled ["draw", "some"] []
  F_law_caught : FunT K "_law_caught" s_law_caught a.f_law_caught a.d_law_caught a.c_law_caught
  g_law_caught : mg "_law_caught" = some (.ref a.f_law_caught)
  b_law_caught : Binds K a.d_law_caught ["work"] []
  F_law_names : FunT K "_law_names" s_law_names a.f_law_names a.d_law_names a.c_law_names
  g_law_names : mg "_law_names" = some (.ref a.f_law_names)
  b_law_names : Binds K a.d_law_names ["draw", "many"] []
  F_law_scope : FunT K "_law_scope" s_law_scope a.f_law_scope a.d_law_scope a.c_law_scope
  g_law_scope : mg "_law_scope" = some (.ref a.f_law_scope)
  b_law_scope : Binds K a.d_law_scope ["draw", "most"] []
  F_law_letters : FunT K "_law_letters" s_law_letters a.f_law_letters a.d_law_letters a.c_law_letters
  g_law_letters : mg "_law_letters" = some (.ref a.f_law_letters)
  b_law_letters : Binds K a.d_law_letters ["scope"] []
  F_law_once : FunT K "_law_once" s_law_once a.f_law_once a.d_law_once a.c_law_once
  g_law_once : mg "_law_once" = some (.ref a.f_law_once)
  b_law_once : Binds K a.d_law_once ["some"] []
  F_law_weave : FunT K "_law_weave" s_law_weave a.f_law_weave a.d_law_weave a.c_law_weave
  g_law_weave : mg "_law_weave" = some (.ref a.f_law_weave)
  b_law_weave : Binds K a.d_law_weave ["draw", "scope", "left"] []
  F_law_inner : FunT K "_law_inner" s_law_inner a.f_law_inner a.d_law_inner a.c_law_inner
  g_law_inner : mg "_law_inner" = some (.ref a.f_law_inner)
  b_law_inner : Binds K a.d_law_inner ["weave"] []
  F_law_nodes : FunT K "_law_nodes" s_law_nodes a.f_law_nodes a.d_law_nodes a.c_law_nodes
  g_law_nodes : mg "_law_nodes" = some (.ref a.f_law_nodes)
  b_law_nodes : Binds K a.d_law_nodes ["weave"] []
  F_law_at : FunT K "_law_at" s_law_at a.f_law_at a.d_law_at a.c_law_at
  g_law_at : mg "_law_at" = some (.ref a.f_law_at)
  b_law_at : Binds K a.d_law_at ["weave", "path"] []
  F_law_told : FunT K "_law_told" s_law_told a.f_law_told a.d_law_told a.c_law_told
  g_law_told : mg "_law_told" = some (.ref a.f_law_told)
  b_law_told : Binds K a.d_law_told ["weave"] []
  F_law_bad_weave : FunT K "_law_bad_weave" s_law_bad_weave a.f_law_bad_weave a.d_law_bad_weave a.c_law_bad_weave
  g_law_bad_weave : mg "_law_bad_weave" = some (.ref a.f_law_bad_weave)
  b_law_bad_weave : Binds K a.d_law_bad_weave ["draw", "scope"] []
  F_law : FunT K "law" s_law a.f_law a.d_law a.c_law
  g_law : mg "law" = some (.ref a.f_law)
  b_law : Binds K a.d_law ["script"] []
/-- the tables that may grow -/
def tabs (a : Ad) : List Addr := [a.p_is_ascending, a.p_is_name, a.p_is_scope, a.p_is_letter, a.p_node_count, a.p_place_count, a.p_written]
variable {P : Program} {w : World} {K : PySem.W.Frag} {mg : Str → Option Value} {base : Heap} {a : Ad}
abbrev T (a : Ad) := tabs a
local macro_rules
  | `(tactic| contradiction) => `(tactic| first
    | with_reducible refine rs_seq ?_ | with_reducible refine rs_if ?_ | with_reducible refine rs_ret ?_ | with_reducible refine rt_and ?_ | with_reducible refine rt_or ?_ | with_reducible refine rt_not ?_ | with_reducible refine rt_test ?_ | with_reducible refine rt_B ?_ | with_reducible refine rs_asg ?_ | with_reducible refine rs_par ?_
    | with_reducible refine re_cb ?_ | with_reducible refine re_op ?_ | with_reducible refine re_if ?_ | with_reducible refine re_un ?_ | with_reducible refine ra_cons ?_ | with_reducible refine ra_nil ?_ | with_reducible refine re_int ?_ | with_reducible refine re_str ?_ | with_reducible refine re_bl ?_ | with_reducible refine re_non ?_ | with_reducible refine re_ty ?_ 
    | refine re_var rfl (fun z => by cases z) ?_ | with_reducible refine rr_b ?_ | with_reducible refine rr_i ?_ | with_reducible refine ru_i ?_
    | with_reducible refine rc_isi rfl (by first | exact (show kitB _ _ = some true by decide +kernel) | exact (show kitB _ _ = some false by decide +kernel)) ?_
    | with_reducible refine rc_len rfl ?_ | with_reducible refine rr_ix rfl atI_0 ?_ | with_reducible refine rr_ix rfl atI_1 ?_
    | with_reducible refine rr_eqF rfl ?_ | with_reducible refine rr_neF rfl ?_ | with_reducible refine rr_addI ?_ | with_reducible refine rc_abs ?_ | with_reducible refine rc_int ?_ | with_reducible refine rc_min ?_
    | refine ⟨_, rfl, ?_⟩ | rw [if_pos rfl] | rw [if_neg Bool.false_ne_true] | with_reducible refine rs_next ?_ | (with_reducible refine ift ?_ ?_; focus (simp; done)) | (with_reducible refine iff' ?_ ?_; focus (simp; done)) | dsimp only)
/-! ### the draw -/
structure Dr where
  (aw : Addr) (wide cells : List Int) (rest turn : Int)
def dKv (s : Dr) : Kvs := [(.inr "wide", .o s.aw), (.inr "cells", .d (.lst (s.cells.map .int))), (.inr "rest", .d (.int s.rest)), (.inr "turn", .d (.int s.turn))]
def dOwn (d : Addr) (s : Dr) : Own := [(d, .dk (dKv s)), (s.aw, .ls (s.wide.map .int))]
theorem v_wide (s : Dr) : valS (dKv s) (.inr "wide") = some (.o s.aw) := rfl
theorem v_cells (s : Dr) : valS (dKv s) (.inr "cells") = some (.d (.lst (s.cells.map .int))) := rfl
theorem v_rest (s : Dr) : valS (dKv s) (.inr "rest") = some (.d (.int s.rest)) := rfl
theorem v_turn (s : Dr) : valS (dKv s) (.inr "turn") = some (.d (.int s.turn)) := rfl
theorem p_turn (s : Dr) (t : Int) : putS (dKv s) (.inr "turn") (.d (.int t)) = dKv { s with turn := t } := rfl
theorem p_rest (s : Dr) (t : Int) : putS (dKv s) (.inr "rest") (.d (.int t)) = dKv { s with rest := t } := rfl
structure Dr.Ok (s : Dr) : Prop where
  rest : 0 ≤ s.rest
  turn : 0 ≤ s.turn
  wide : ∀ x ∈ s.wide, 0 ≤ x
  cells : ∀ x ∈ s.cells, 0 ≤ x ∧ x < 2147483629
  lw : s.wide.length ≤ 63
  lc : s.cells.length ≤ 63
def spMixed : Prm := fun xs O Pv => ∃ d s, xs = [.o d] ∧ O = dOwn d s ∧ s.Ok ∧ s.turn ≤ 2 ^ 40 ∧ ∀ n : Int, 0 ≤ n → Pv (.d (.int n)) (dOwn d { s with turn := s.turn + 1 })
theorem ok_mixed {k : Nat} (X : Txt K mg base a) : FnOk P w K mg base CX0 (k + 1) a.f_law_mixed a.d_law_mixed ["draw"] (spOf K (T a) spMixed) := by
  refine X.F_law_mixed.ok sc_law_mixed ?_ fun A outer s H E hr => ⟨_, (pss_cons (ps_par (i := 1) (j := 2) (by rfl) sc_law_mixed.nd rfl rfl (by decide) rfl rfl (pa_cons (pe_op (op_addAK (K := K) rfl) (pe_dget (Al.room_u1 hr) (pv 0) pe_str (fun _ _ => rfl)) pe_int) (pa_cons pe_int pa_nil)) (by rfl)) (pss_cons (ps_dput (Al.room_u1 hr) (pv 0) pe_str (pv 1) rfl) (pss_cons (ps_for PassesOwn.never rfl (Al.pi_seqK (K := K) rfl (pe_lst (pa_cons pe_int (pa_cons pe_int (pa_cons pe_int (pa_cons pe_int pa_nil)))))) (pg_name (i := 3) sc_law_mixed.nd rfl (by first | exact .inl rfl | exact .inr rfl)) (pss_cons (ps_set (i := 4) sc_law_mixed.nd rfl (by first | exact .inl rfl | exact .inr rfl) (pe_op (op_addAK (K := K) rfl) (pe_op op_mul pe_int (pv 1)) (pe_op op_fdivW (pv 3) pe_int))) (pss_cons (ps_for PassesOwn.never rfl (Al.pi_seqK (K := K) rfl (pe_dget (Al.room_u1 hr) (pv 0) pe_str (fun _ _ => rfl))) (pg_name (i := 5) sc_law_mixed.nd rfl (by first | exact .inl rfl | exact .inr rfl)) (pss_one (ps_set (i := 4) sc_law_mixed.nd rfl (by first | exact .inl rfl | exact .inr rfl) (pe_op op_modN (pe_callTy call_int1 (by rfl) X.m_int (by decide +kernel) (pa_cons (pe_op (op_addAK (K := K) rfl) (pe_op (op_addAK (K := K) rfl) (pe_op op_mul (pv 4) pe_int) (pv 5)) (pv 1)) pa_nil)) (pv 3))))) (pss_one (ps_set (i := 2) sc_law_mixed.nd rfl (by first | exact .inl rfl | exact .inr rfl) (pe_op (op_addAK (K := K) rfl) (pe_op op_mul (pv 2) pe_int) (pe_op op_modN (pe_callTy call_int1 (by rfl) X.m_int (by decide +kernel) (pa_cons (pe_op op_pow (pv 4) pe_int) pa_nil)) (pv 3)))))))) (pss_one (ps_ret (pv 2)))))), ?_⟩
  · rintro xs O Pv ⟨d, s, rfl, _⟩
    rfl
  · rintro xs O Pv ⟨d, s, rfl, rfl, ok, ht, p⟩
    try dsimp only [cxOf, L2.Cx.nox]
    repeat contradiction
    refine re_dget ?_
    repeat contradiction
    refine ⟨.inr "turn", _, _, rfl, .head _, v_turn s, ?_⟩
    repeat contradiction
    refine ⟨_, _, rfl, ?_⟩
    repeat contradiction
    refine rs_dput ?_
    repeat contradiction
    refine ⟨.inr "turn", dKv s, _, rfl, .refl _, Nat.le_of_ble_eq_true rfl, ?_⟩
    rw [p_turn]
    have h1 : 0 ≤ s.turn := ok.turn
    repeat contradiction
    refine rs_for (ri_seq (re_lstD ?_))
    repeat contradiction
    refine ⟨rfl, _, _, rfl, rfl, fun i ρ' O' => O' = dOwn d { s with turn := s.turn + 1 } ∧ ∃ f pr b g, ρ' = [.o d, .d (.int (s.turn + 1)), .d (.int f), pr, b, g] ∧ 0 ≤ f, ⟨rfl, _, _, _, _, rfl, Int.le_refl _⟩, ?_, ?_⟩
    · rintro ρ' O' ⟨rfl, f, pr, b, g, rfl, hf⟩
      repeat contradiction
      exact p f hf
    · rintro i dd ρ' O' ⟨rfl, f, pr, b, g, rfl, hf⟩ hi
      have hq : ∃ q : Int, dd = .int q ∧ 2147483000 ≤ q ∧ q ≤ 2147483647 := by
        have := List.mem_of_getElem? hi
        simp only [List.mem_cons, List.not_mem_nil, or_false] at this
        rcases this with rfl | rfl | rfl | rfl <;> exact ⟨_, rfl, by decide, by decide⟩
      obtain ⟨q, rfl, q1, q2⟩ := hq
      refine rg_name ?_
      repeat contradiction
      refine rr_ic (.inl ⟨by decide, by decide⟩) ?_
      repeat contradiction
      refine rr_ic ⟨by decide, by decide⟩ ?_
      repeat contradiction
      have hb0 : 0 ≤ 48271 * (s.turn + 1) + q / 37 ∧ 48271 * (s.turn + 1) + q / 37 < 2 ^ 60 := by constructor <;> omega
      refine rs_for (ri_seq (re_dget ?_))
      repeat contradiction
      refine ⟨.inr "cells", _, _, rfl, .head _, v_cells _, ?_⟩
      refine ⟨_, _, rfl, rfl, fun j ρ' O' => O' = dOwn d { s with turn := s.turn + 1 } ∧ ∃ b g, ρ' = [.o d, .d (.int (s.turn + 1)), .d (.int f), .d (.int q), .d (.int b), g] ∧ 0 ≤ b ∧ b < 2 ^ 60, ⟨rfl, _, _, rfl, hb0.1, hb0.2⟩, ?_, ?_⟩
      · rintro ρ' O' ⟨rfl, b, g, rfl, b1, b2⟩
        repeat contradiction
        refine rr_ic (.inr ⟨by decide, by decide⟩) ?_
        repeat contradiction
        refine rr_ic ⟨by decide, by decide, by omega⟩ ?_
        repeat contradiction
        refine rr_ic (by omega) ?_
        repeat contradiction
        refine ⟨rfl, _, _, _, _, rfl, ?_⟩
        have := Int.fmod_nonneg_of_pos (b ^ 5) (show 0 < q by omega)
        have h5 : (5 : Int).toNat = 5 := rfl
        rw [h5]
        omega
      · rintro j dd ρ' O' ⟨rfl, b, g, rfl, b1, b2⟩ hj
        have hc : ∃ c : Int, dd = .int c := by
          have := List.mem_of_getElem? hj
          obtain ⟨c, _, rfl⟩ := List.mem_map.mp this
          exact ⟨c, rfl⟩
        obtain ⟨c, rfl⟩ := hc
        refine rg_name ?_
        repeat contradiction
        refine rr_ic (.inr ⟨by decide, by decide⟩) ?_
        repeat contradiction
        refine rr_ic (by omega) ?_
        repeat contradiction
        refine ⟨rfl, _, _, rfl, Int.fmod_nonneg_of_pos _ (by omega), ?_⟩
        have := Int.fmod_lt_of_pos (b * 69621 + c + (s.turn + 1)) (show 0 < q by omega)
        omega

def spTake : Prm := fun xs O Pv => ∃ d s, ∃ m : Int, xs = [.o d, .d (.int m)] ∧ O = dOwn d s ∧ s.Ok ∧ s.turn ≤ 2 ^ 40 ∧ 0 < m ∧ m < 2 ^ 60 ∧ ∀ (n : Int) (s' : Dr), 0 ≤ n → n < m → s'.Ok → s'.turn ≤ s.turn + 1 → Pv (.d (.int n)) (dOwn d s')
theorem ok_take {k : Nat} (X : Txt K mg base a) : FnOk P w K mg base CX0 (k + 2) a.f_law_take a.d_law_take ["draw", "many"] (spOf K (T a) spTake) := by
  have G_law_mixed := ok_mixed (P := P) (w := w) (k := k) X
  refine X.F_law_take.ok sc_law_take ?_ fun A outer s H E hr => ⟨_, (pss_cons (ps_if (pt_cmpR (op_eqAK (K := K) rfl (Al.room_u hr)) (pe_dget (Al.room_u1 hr) (pv 0) pe_str (fun _ _ => rfl)) pe_int (nomark _)) (pss_one (ps_dput (Al.room_u1 hr) (pv 0) pe_str (pe_ifExp (pt_cmpR (op_neAK (K := K) rfl (Al.room_u hr)) (pe_dget (Al.room_u1 hr) (pv 0) pe_str (fun _ _ => rfl)) (pe_lst pa_nil) (nomark _)) (pe_bm PySem.F.plainAttrs_list PySem.F.slot_list_pop PySem.F.type_list_pop mt_popAt (pe_dget (Al.room_u1 hr) (pv 0) pe_str (fun _ _ => rfl)) (pa_cons pe_int pa_nil)) (pe_call (G_law_mixed) (hr.mono (by omega)) (by rfl) X.g_law_mixed X.F_law_mixed.kp X.b_law_mixed .nil pass0 (pa_cons (pv 0) pa_nil))) rfl)) pss_nil) (pss_cons (ps_set (i := 2) sc_law_take.nd rfl (by first | exact .inl rfl | exact .inr rfl) (pe_op op_modN (pe_callTy call_int1 (by rfl) X.m_int (by decide +kernel) (pa_cons (pe_dget (Al.room_u1 hr) (pv 0) pe_str (fun _ _ => rfl)) pa_nil)) (pv 1))) (pss_cons (ps_dput (Al.room_u1 hr) (pv 0) pe_str (pe_op op_fdivW (pe_dget (Al.room_u1 hr) (pv 0) pe_str (fun _ _ => rfl)) (pv 1)) rfl) (pss_one (ps_ret (pv 2)))))), ?_⟩
  · rintro xs O Pv ⟨d, s, m, rfl, _⟩
    rfl
  · rintro xs O Pv ⟨d, s, m, rfl, rfl, ok, ht, m0, m1, p⟩
    try dsimp only [cxOf, L2.Cx.nox]
    -- behind the renewal of the rest
    have fin : ∀ (s' : Dr), s'.Ok → s'.turn ≤ s.turn + 1 → RunS K (T a) (tSeq (tAsg (tOp (rI (fun x j => j ≠ 0) fun i j => V.int (i.fmod j)) (tCB (fun xs H Q => (∃ i, xs = [V.int i] ∧ Q (V.int i) H) ∨ ∃ k, xs = [V.bl k] ∧ Q (V.int (if k = true then 1 else 0)) H) (tCons (tDGet (tVar 0) (tC (V.str "rest"))) tNil)) (tVar 1)) (gName 2))
        (tSeq (sDPut (tVar 0) (tC (V.str "rest")) (tOp (rI CDivW fun i j => V.int (i / j)) (tDGet (tVar 0) (tC (V.str "rest"))) (tVar 1))) (tRet (tVar 2)))) [.o d, .d (.int m), .u] (dOwn d s') { nx := fun _ O' => Pv (.d .non) O', rt := Pv } := by
      intro s' ok' ht'
      repeat contradiction
      refine re_dget ?_
      repeat contradiction
      refine ⟨.inr "rest", _, _, rfl, .head _, v_rest s', ?_⟩
      repeat contradiction
      refine rr_ic (by omega) ?_
      repeat contradiction
      refine rs_dput ?_
      repeat contradiction
      refine re_dget ?_
      repeat contradiction
      refine ⟨.inr "rest", _, _, rfl, .head _, v_rest s', ?_⟩
      repeat contradiction
      refine rr_ic (wide_div (b := 60) m0 (by omega) (by decide) (by decide)) ?_
      repeat contradiction
      refine ⟨.inr "rest", dKv s', _, rfl, .refl _, Nat.le_of_ble_eq_true rfl, ?_⟩
      rw [p_rest]
      repeat contradiction
      have hr : 0 ≤ s'.rest / m := Int.ediv_nonneg ok'.rest (by omega)
      exact p _ { s' with rest := s'.rest / m } (Int.fmod_nonneg_of_pos _ m0) (Int.fmod_lt_of_pos _ m0) ⟨hr, ok'.turn, ok'.wide, ok'.cells, ok'.lw, ok'.lc⟩ ht'
    repeat contradiction
    refine re_dget ?_
    repeat contradiction
    refine ⟨.inr "rest", _, _, rfl, .head _, v_rest s, ?_⟩
    repeat contradiction
    by_cases h0 : s.rest = 0
    · refine ift (by simp [eqD, h0]) ?_
      refine rs_dput ?_
      repeat contradiction
      refine re_dget ?_
      repeat contradiction
      refine ⟨.inr "wide", _, _, rfl, .head _, v_wide s, ?_⟩
      refine re_lstD ?_
      repeat contradiction
      refine ⟨rfl, ?_⟩
      refine rr_neO0 (.tail _ (.head _)) ?_
      refine ⟨_, rfl, ?_⟩
      cases hw : s.wide with
      | nil =>
        refine iff' rfl ?_
        refine re_callF ?_
        repeat contradiction
        refine ⟨dOwn d s, [], .refl _, d, s, rfl, rfl, ok, ht, fun n hn => ?_⟩
        repeat contradiction
        refine ⟨.inr "rest", dKv { s with turn := s.turn + 1 }, _, rfl, .refl _, Nat.le_of_ble_eq_true rfl, ?_⟩
        rw [p_rest]
        exact fin { s with rest := n, turn := s.turn + 1 } ⟨hn, by have := ok.turn; show 0 ≤ s.turn + 1; omega, ok.wide, ok.cells, ok.lw, ok.lc⟩ (Int.le_refl _)
      | cons x wide =>
        refine ift rfl ?_
        refine re_pop ?_
        refine re_dget ?_
        repeat contradiction
        refine ⟨.inr "wide", _, _, rfl, .head _, v_wide s, ?_⟩
        refine ⟨_, _, rfl, .tail _ (.head _), ?_⟩
        repeat contradiction
        refine ⟨0, s.wide.map .int, .int x, [(d, .dk (dKv s))], rfl, .swap _ _ _, ?_, by rw [hw]; rfl, ?_⟩
        · rw [List.length_map]; exact Nat.le_of_lt (small1000 (by have := ok.lw; omega))
        · repeat contradiction
          refine ⟨.inr "rest", dKv s, [(s.aw, .ls (wide.map .int))], rfl, by rw [hw]; exact .swap _ _ _, Nat.le_of_ble_eq_true rfl, ?_⟩
          rw [p_rest]
          have hx : 0 ≤ x := ok.wide x (by rw [hw]; exact List.mem_cons_self)
          have hl := ok.lw
          rw [hw, List.length_cons] at hl
          exact fin { s with rest := x, wide := wide } ⟨hx, ok.turn, fun y hy => ok.wide y (by rw [hw]; exact List.mem_cons_of_mem _ hy), ok.cells, by show wide.length ≤ 63; omega, ok.lc⟩ (by show s.turn ≤ s.turn + 1; omega)
    · refine iff' (by simp [eqD, h0]) ?_
      refine rs_next ?_
      exact fin s ok (by omega)

/-! ### begun -/
def begun (ns : List Int) : Prop := ns.length ≤ 63
def spBegun : Prm := fun xs O Pv => ∃ ns : List Int, xs = [.d (.scr (ns.map .int))] ∧ O = [] ∧ ns.length ≤ 63 ∧ ∀ d s, Dr.Ok s → s.turn = 0 → Pv (.o d) (dOwn d s)
theorem ok_begun {k : Nat} (X : Txt K mg base a) : FnOk P w K mg base CX0 (k + 1) a.f_law_begun a.d_law_begun ["script"] (spOf K (T a) spBegun) := by
  refine X.F_law_begun.ok sc_law_begun ?_ fun A outer s H E hr => ⟨_, (pss_cons (ps_setLc (i := 1) (own := [("grain", 2)]) rfl sc_law_begun.nd rfl rfl (sw_true rfl rfl rfl (by decide +kernel)) (Al.pi_seqK (K := K) rfl (pv 0)) (blkOk_by (own := [("grain", 2)]) (N := ["script", "wide", "grain"]) (sc := defScope s_law_begun) (by decide +kernel)) (fun _ _ _ _ _ => (pg_name (i := 2) sc_law_begun.nd rfl (by first | exact .inl rfl | exact .inr rfl))) (fun _ _ _ _ _ => (pts_one (pt_cmpR op_ge (pe_callB call_abs (by rfl) X.m_abs (by decide +kernel) (pa_cons (pv 2) pa_nil)) (pe_op op_pow pe_int pe_int) (nomark _)))) (fun _ _ _ _ _ => (pe_op op_sub (pe_callB call_abs (by rfl) X.m_abs (by decide +kernel) (pa_cons (pv 2) pa_nil)) (pe_op op_pow pe_int pe_int)))) (pss_one (ps_ret (pe_disp (pps_cons pe_str (pv 1) (pps_cons pe_str (pe_lc (own := [("grain", 2)]) rfl sc_law_begun.nd (Al.pi_seqK (K := K) rfl (pv 0)) (blkOk_by (own := [("grain", 2)]) (N := ["script", "wide", "grain"]) (sc := defScope s_law_begun) (by decide +kernel)) (fun _ _ _ _ _ => (pg_name (i := 2) sc_law_begun.nd rfl (by first | exact .inl rfl | exact .inr rfl))) (fun _ _ _ _ _ => pts_nil) (fun _ _ _ _ _ => (pe_op op_modN (pe_callTy call_int1 (by rfl) X.m_int (by decide +kernel) (pa_cons (pe_callB call_abs (by rfl) X.m_abs (by decide +kernel) (pa_cons (pv 2) pa_nil)) pa_nil)) pe_int))) (pps_cons pe_str pe_int (pps_cons pe_str pe_int pps_nil)))) (by rfl) (by rfl) (fun z => by cases z) (by decide))))), ?_⟩
  · rintro xs O Pv ⟨ns, rfl, _⟩
    rfl
  · rintro xs O Pv ⟨ns, rfl, rfl, hl, p⟩
    try dsimp only [cxOf, L2.Cx.nox]
    have hz : (ns.map D.int).length < sizeLine := by rw [List.length_map]; exact small1000 (by omega)
    have hint : ∀ {i : Nat} {d : D}, (ns.map D.int)[i]? = some d → ∃ c : Int, d = .int c := fun {i d} hi => by
      obtain ⟨c, _, rfl⟩ := List.mem_map.mp (List.mem_of_getElem? hi)
      exact ⟨c, rfl⟩
    repeat contradiction
    refine re_lcO (gin_name (by decide)) (ri_seq ?_)
    repeat contradiction
    refine ⟨_, _, rfl, rfl, fun i acc O' => O' = [] ∧ ∃ ws : List Int, acc = ws.map .int ∧ (∀ x ∈ ws, 0 ≤ x) ∧ ws.length ≤ i, ⟨rfl, [], rfl, by simp, Nat.le_refl _⟩, hz, ?_, ?_⟩
    · rintro aw acc O' ⟨rfl, ws, rfl, w0, wl⟩
      rw [List.length_map] at wl
      repeat contradiction
      refine re_disp ?_
      refine rp_cons ?_
      repeat contradiction
      refine rp_cons ?_
      repeat contradiction
      refine re_lc (gin_name (by decide)) (ri_seq ?_)
      repeat contradiction
      refine ⟨_, _, rfl, rfl, fun i acc O' => O' = [(aw, .ls (ws.map .int))] ∧ ∃ cs : List Int, acc = cs.map .int ∧ (∀ x ∈ cs, 0 ≤ x ∧ x < 2147483629) ∧ cs.length ≤ i, ⟨rfl, [], rfl, by simp, Nat.le_refl _⟩, hz, ?_, ?_⟩
      · rintro acc O' ⟨rfl, cs, rfl, c0, cl⟩
        rw [List.length_map] at cl
        refine rp_cons ?_
        repeat contradiction
        refine rp_cons ?_
        repeat contradiction
        refine rp_nil ?_
        refine ⟨[(.inr "wide", .o aw), (.inr "cells", .d (.lst (cs.map .int))), (.inr "rest", .d (.int 0)), (.inr "turn", .d (.int 0))], rfl, Nat.le_of_ble_eq_true rfl, (show ([.inr "wide", .inr "cells", .inr "rest", .inr "turn"] : List L2.Key).Nodup by decide +kernel), fun d => ?_⟩
        exact p d ⟨aw, ws, cs, 0, 0⟩ ⟨Int.le_refl _, Int.le_refl _, w0, c0, by show ws.length ≤ 63; omega, by show cs.length ≤ 63; omega⟩ rfl
      · rintro i dd acc O' ⟨rfl, cs, rfl, c0, cl⟩ hi
        obtain ⟨c, rfl⟩ := hint hi
        refine rg_name (rt_yes ?_)
        repeat contradiction
        refine rr_ic (by decide) ?_
        refine ⟨_, rfl, by rw [List.length_map]; exact cl, rfl, cs ++ [(if c < 0 then -c else c).fmod 2147483629], by simp, ?_, by rw [List.length_append]; exact Nat.succ_le_succ cl⟩
        intro x hx
        rcases List.mem_append.mp hx with hx | hx
        · exact c0 x hx
        · rw [List.mem_singleton.mp hx]
          exact ⟨Int.fmod_nonneg_of_pos _ (by decide), Int.fmod_lt_of_pos _ (by decide)⟩
    · rintro i dd acc O' ⟨rfl, ws, rfl, w0, wl⟩ hi
      obtain ⟨c, rfl⟩ := hint hi
      refine rg_name ?_
      repeat contradiction
      refine rr_ic ⟨by decide, by decide, by decide⟩ ?_
      repeat contradiction
      by_cases hc : (10 : Int) ^ Int.toNat 18 ≤ if c < 0 then -c else c
      · refine ift (decide_eq_true hc) ?_
        repeat contradiction
        refine rr_ic ⟨by decide, by decide, by decide⟩ ?_
        repeat contradiction
        refine ⟨by rw [List.length_map]; exact wl, rfl, ws ++ [(if c < 0 then -c else c) - 10 ^ Int.toNat 18], by simp, ?_, by rw [List.length_append]; exact Nat.succ_le_succ wl⟩
        intro x hx
        rcases List.mem_append.mp hx with hx | hx
        · exact w0 x hx
        · rw [List.mem_singleton.mp hx]
          exact Int.sub_nonneg.mpr hc
      · refine iff' (decide_eq_false hc) ?_
        exact ⟨rfl, ws, rfl, w0, Nat.le_succ_of_le wl⟩

theorem atI_ex {α : Type} {l : List α} {n : Int} (h0 : 0 ≤ n) (h1 : n < l.length) : ∃ x, x ∈ l ∧ atI l n = some x := by
  obtain ⟨m, rfl⟩ := Int.eq_ofNat_of_zero_le h0
  have hm : m < l.length := by omega
  exact ⟨l[m], List.getElem_mem hm, atI_nat (List.getElem?_eq_getElem hm)⟩
def spPick : Prm := fun xs O Pv => ∃ d s y l, xs = [.o d, .d y] ∧ itemsOf y = some l ∧ 0 < l.length ∧ l.length ≤ 100000 ∧ O = dOwn d s ∧ s.Ok ∧ s.turn ≤ 2 ^ 40 ∧ ∀ x s', x ∈ l → Dr.Ok s' → s'.turn ≤ s.turn + 1 → Pv (.d x) (dOwn d s')
theorem lenD_of {y : D} {l : List D} (h : itemsOf y = some l) : lenD y = some l.length := by cases y <;> first | (cases h; rfl) | cases h
theorem ok_pick {k : Nat} (X : Txt K mg base a) : FnOk P w K mg base CX0 (k + 3) a.f_law_pick a.d_law_pick ["draw", "some"] (spOf K (T a) spPick) := by
  have G_law_take := ok_take (P := P) (w := w) (k := k) X
  refine X.F_law_pick.ok sc_law_pick ?_ fun A outer s H E hr => ⟨_, (pss_one (ps_ret (pe_ix (ix_seqK (K := K) rfl) (pv 1) (pe_call (G_law_take) (hr.mono (by omega)) (by rfl) X.g_law_take X.F_law_take.kp X.b_law_take .nil pass0 (pa_cons (pv 0) (pa_cons (pe_callB (call_lenK (K := K) rfl) (by rfl) X.m_len (by decide +kernel) (pa_cons (pv 1) pa_nil)) pa_nil))) (fun _ _ => rfl)))), ?_⟩
  · rintro xs O Pv ⟨d, s, y, l, rfl, _⟩
    rfl
  · rintro xs O Pv ⟨d, s, y, l, rfl, hy, h0, hl, rfl, ok, ht, p⟩
    try dsimp only [cxOf, L2.Cx.nox]
    repeat contradiction
    refine re_callF ?_
    repeat contradiction
    refine rc_len (lenD_of hy) ?_
    repeat contradiction
    refine ⟨dOwn d s, [], .refl _, d, s, l.length, rfl, rfl, ok, ht, by omega, by omega, fun n s' n0 n1 ok' ht' => ?_⟩
    obtain ⟨x, hx, hi⟩ := atI_ex n0 n1
    exact rr_ix hy hi (p x s' hx ok' ht')
theorem erase_perm {α : Type} : ∀ (l : List α) (m : Nat) (h : m < l.length), (l[m] :: l.eraseIdx m).Perm l
  | x :: r, 0, h => .refl _
  | x :: r, m + 1, h => by
    have hr : m < r.length := by simpa using h
    have ih := erase_perm r m hr
    show (r[m]'hr :: x :: r.eraseIdx m).Perm (x :: r)
    exact (List.Perm.swap _ _ _).trans (.cons _ ih)
def spShuf : Prm := fun xs O Pv => ∃ d s y l, xs = [.o d, .d y] ∧ itemsOf y = some l ∧ l.length ≤ 1000 ∧ O = dOwn d s ∧ s.Ok ∧ s.turn + l.length ≤ 2 ^ 40 ∧ ∀ l' s', l'.Perm l → Dr.Ok s' → s'.turn ≤ s.turn + l.length → Pv (.d (.lst l')) (dOwn d s')
theorem ok_shuf {k : Nat} (X : Txt K mg base a) : FnOk P w K mg base CX0 (k + 3) a.f_law_shuffled a.d_law_shuffled ["draw", "some"] (spOf K (T a) spShuf) := by
  have G_law_take := ok_take (P := P) (w := w) (k := k) X
  refine X.F_law_shuffled.ok sc_law_shuffled ?_ fun A outer s H E hr => ⟨_, (pss_cons (ps_par (i := 2) (j := 3) (by rfl) sc_law_shuffled.nd rfl rfl (by decide) rfl rfl (pa_cons (pe_callTy (call_listK (K := K) rfl) (by rfl) X.m_list (by decide +kernel) (pa_cons (pv 1) pa_nil)) (pa_cons (pe_lst pa_nil) pa_nil)) (by rfl)) (pss_cons (ps_while PassesOwn.never (pt_cmpR (op_neAK (K := K) rfl (Al.room_u hr)) (pv 2) (pe_lst pa_nil) (nomark _)) (pss_one (ps_expr (pe_bm PySem.F.plainAttrs_list PySem.F.slot_list_append PySem.F.type_list_append mt_append (pv 3) (pa_cons (pe_bm PySem.F.plainAttrs_list PySem.F.slot_list_pop PySem.F.type_list_pop mt_popAt (pv 2) (pa_cons (pe_call (G_law_take) (hr.mono (by omega)) (by rfl) X.g_law_take X.F_law_take.kp X.b_law_take .nil pass0 (pa_cons (pv 0) (pa_cons (pe_callB (call_lenK (K := K) rfl) (by rfl) X.m_len (by decide +kernel) (pa_cons (pv 2) pa_nil)) pa_nil))) pa_nil)) pa_nil))))) (pss_one (ps_ret (pv 3))))), ?_⟩
  · rintro xs O Pv ⟨d, s, y, l, rfl, _⟩
    rfl
  · rintro xs O Pv ⟨d, s, y, l, rfl, hy, hl, rfl, ok, ht, p⟩
    try dsimp only [cxOf, L2.Cx.nox]
    repeat contradiction
    refine rc_listO hy fun pl => ?_
    repeat contradiction
    refine re_lstOD ?_
    repeat contradiction
    refine ⟨rfl, fun pf => ?_⟩
    repeat contradiction
    refine ⟨_, _, rfl, ?_⟩
    refine rs_seq (rs_while (fun m ρ O => ∃ s' l1 l2, ρ = [.o d, .d y, .o pl, .o pf] ∧ O = (pf, .ls l2) :: (pl, .ls l1) :: dOwn d s' ∧ m = l1.length ∧ (l2 ++ l1).Perm l ∧ Dr.Ok s' ∧ s'.turn ≤ s.turn + l2.length) ⟨l.length, s, l, [], rfl, rfl, rfl, .refl _, ok, by simp⟩ ?_)
    rintro m ρ O ⟨s', l1, l2, rfl, rfl, rfl, hp, ok', ht'⟩
    have hlen := hp.length_eq
    rw [List.length_append] at hlen
    repeat contradiction
    refine re_lstD ?_
    repeat contradiction
    refine ⟨rfl, ?_⟩
    refine rr_neO0 (.tail _ (.head _)) ?_
    refine ⟨_, rfl, ?_⟩
    cases l1 with
    | nil =>
      refine iff' rfl ?_
      rw [List.append_nil] at hp
      show RunS K (T a) (tRet (tVar 3)) _ _ _
      refine rs_freeze (i := 3) rfl ?_
      refine rs_letgo ?_
      repeat contradiction
      refine p l2 s' hp ok' ?_
      rw [List.length_nil] at hlen
      omega
    | cons x r =>
      refine ift rfl ?_
      repeat contradiction
      refine rs_drop ?_
      refine re_append ?_
      repeat contradiction
      refine ⟨_, _, rfl, .head _, ?_⟩
      refine re_pop ?_
      repeat contradiction
      refine ⟨_, _, rfl, .tail _ (.head _), ?_⟩
      refine re_callF ?_
      repeat contradiction
      refine rc_lenO (.tail _ (.head _)) ?_
      repeat contradiction
      rw [List.length_cons] at hlen
      refine ⟨dOwn d s', [(pf, .ls l2), (pl, .ls (x :: r))], ?_, d, s', ((x :: r).length : Nat), rfl, rfl, ok', by omega, by rw [List.length_cons]; omega, by rw [List.length_cons]; omega, fun n s2 n0 n1 ok2 ht2 => ?_⟩
      · exact List.perm_append_comm (l₁ := [(pf, C.ls l2), (pl, C.ls (x :: r))]) (l₂ := dOwn d s')
      · obtain ⟨m, rfl⟩ := Int.eq_ofNat_of_zero_le n0
        have hm : m < (x :: r).length := by omega
        refine ⟨m, x :: r, (x :: r)[m], (pf, .ls l2) :: dOwn d s2, rfl, ?_, by rw [List.length_cons]; exact Nat.le_of_lt (small1000 (by omega)), List.getElem?_eq_getElem hm, ?_⟩
        · refine (List.perm_append_comm (l₁ := dOwn d s2) (l₂ := [(pf, C.ls l2), (pl, C.ls (x :: r))])).trans ?_
          exact .swap _ _ _
        · refine ⟨_, l2, (pl, .ls ((x :: r).eraseIdx m)) :: dOwn d s2, rfl, .swap _ _ _, small1000 (by omega), ?_⟩
          have he : (x :: r).length = ((x :: r).eraseIdx m).length + 1 := by
            rw [List.length_eraseIdx_of_lt hm, List.length_cons]; omega
          refine ⟨((x :: r).eraseIdx m).length, by omega, s2, (x :: r).eraseIdx m, l2 ++ [(x :: r)[m]], rfl, rfl, rfl, ?_, ok2, ?_⟩
          · refine List.Perm.trans ?_ hp
            rw [List.append_assoc]
            refine List.Perm.append_left l2 ?_
            exact erase_perm _ m hm
          · rw [List.length_append]
            have : s2.turn ≤ s'.turn + 1 := ht2
            simp only [List.length_cons, List.length_nil]
            omega
end K0
end
section
set_option Elab.async false
set_option linter.all false
set_option maxRecDepth 100000
set_option maxHeartbeats 2000000
namespace K0
open PySem PySem.Spec PyProof.Rows L2 Al
variable {P : Program} {w : World} {K : PySem.W.Frag} {mg : Str → Option Value} {base : Heap} {a : Ad}
local macro_rules
  | `(tactic| contradiction) => `(tactic| first
    | with_reducible refine rs_seq ?_ | with_reducible refine rs_if ?_ | with_reducible refine rs_ret ?_ | with_reducible refine rt_and ?_ | with_reducible refine rt_or ?_ | with_reducible refine rt_not ?_ | with_reducible refine rt_test ?_ | with_reducible refine rt_B ?_ | with_reducible refine rs_asg ?_ | with_reducible refine rs_par ?_
    | with_reducible refine re_cb ?_ | with_reducible refine re_op ?_ | with_reducible refine re_if ?_ | with_reducible refine re_un ?_ | with_reducible refine ra_cons ?_ | with_reducible refine ra_nil ?_ | with_reducible refine re_int ?_ | with_reducible refine re_str ?_ | with_reducible refine re_bl ?_ | with_reducible refine re_non ?_ | with_reducible refine re_ty ?_ 
    | refine re_var rfl (fun z => by cases z) ?_ | with_reducible refine rr_b ?_ | with_reducible refine rr_i ?_ | with_reducible refine ru_i ?_
    | with_reducible refine rc_isi rfl (by first | exact (show kitB _ _ = some true by decide +kernel) | exact (show kitB _ _ = some false by decide +kernel)) ?_
    | with_reducible refine rc_len rfl ?_ | with_reducible refine rr_ix rfl atI_0 ?_ | with_reducible refine rr_ix rfl atI_1 ?_
    | with_reducible refine rr_eqF rfl ?_ | with_reducible refine rr_neF rfl ?_ | with_reducible refine rr_addI ?_ | with_reducible refine rc_abs ?_ | with_reducible refine rc_int ?_ | with_reducible refine rc_min ?_
    | refine ⟨_, rfl, ?_⟩ | rw [if_pos rfl] | rw [if_neg Bool.false_ne_true] | with_reducible refine rs_next ?_ | (with_reducible refine ift ?_ ?_; focus (simp; done)) | (with_reducible refine iff' ?_ ?_; focus (simp; done)) | dsimp only)

/-! ### plain -/
def ascD : List D → Option Bool
  | x :: y :: r => match ltD x y with
    | some true => ascD (y :: r)
    | some false => some false
    | none => none
  | _ => some true
theorem asc_step {l : List D} {i : Nat} {b : Bool} {x y : D} (h : ascD (l.drop i) = some b) (hx : l[i]? = some x) (hy : l[i + 1]? = some y) : (ltD x y = some true ∧ ascD (l.drop (i + 1)) = some b) ∨ (ltD x y = some false ∧ b = false) := by
  have h1 : i + 1 < l.length := (List.getElem?_eq_some_iff.mp hy).1
  have e1 : l.drop i = x :: l.drop (i + 1) := by
    rw [List.drop_eq_getElem_cons (by omega)]
    congr 1
    have := (List.getElem?_eq_some_iff.mp hx).2
    exact this
  have e2 : l.drop (i + 1) = y :: l.drop (i + 2) := by
    rw [List.drop_eq_getElem_cons h1]
    congr 1
    exact (List.getElem?_eq_some_iff.mp hy).2
  rw [e1, e2, ascD] at h
  cases q : ltD x y with
  | none => rw [q] at h; cases h
  | some k =>
    rw [q] at h
    cases k with
    | true => exact .inl ⟨rfl, by rw [e2]; exact h⟩
    | false => cases h; exact .inr ⟨rfl, rfl⟩
theorem asc_end {l : List D} {i : Nat} (h : l.length ≤ i + 1) : ascD (l.drop i) = some true := by
  match q : l.drop i with
  | [] => rfl
  | [x] => rfl
  | x :: y :: r =>
    have := congrArg List.length q
    rw [List.length_drop] at this
    simp only [List.length_cons] at this
    omega
def spAsc : Prm := fun xs O Pv => ∃ y l b, xs = [.d y] ∧ itemsOf y = some l ∧ l.length ≤ 100000 ∧ (∀ x ∈ l, plain 64 x = true) ∧ ascD l = some b ∧ Pv (.d (.bl b)) O
theorem ok_asc {k : Nat} (X : Txt K mg base a) : FnOk P w K mg base CX0 (k + 5) a.f_is_ascending a.d_is_ascending ["row"] (spOf K (T a) spAsc) := by
  refine X.F_is_ascending.ok sc_is_ascending ?_ fun A outer s H E hr => ⟨_, (pss_one (ps_ret (Gx.pe_allG (own := ["at"]) (cp := [("row", 0)]) hr rfl (by rfl) X.m_all X.B_is_ascending rfl (Al.gok_by (N := ["row"]) (sc := defScope s_is_ascending) (by decide +kernel)) (pi_range1 (by rfl) X.m_range (pa_cons (pe_op op_sub (pe_callB (call_lenK (K := K) rfl) (by rfl) X.m_len (by decide +kernel) (pa_cons (pv 0) pa_nil)) pe_int) pa_nil)) (fun _ _ _ _ _ _ _ _ hg => (pg_name (i := 0) (show (["at", "row"] : List Str).Nodup by decide +kernel) rfl (.inl rfl))) (fun _ _ _ _ _ _ _ _ hg => pts_nil) (fun _ _ _ _ _ _ _ _ hg => (pe_cmpR (op_ltAK (K := K) rfl (Al.room_u hg)) (pe_ix (ix_seqK (K := K) rfl) (pv 1) (pv 0) (fun _ _ => rfl)) (pe_ix (ix_seqK (K := K) rfl) (pv 1) (pe_op (op_addAK (K := K) rfl) (pv 0) pe_int) (fun _ _ => rfl)) (nomark _)))))), ?_⟩
  · rintro xs O Pv ⟨y, l, b, rfl, _⟩
    rfl
  · rintro xs O Pv ⟨y, l, b, rfl, hy, hl, hp, hb, p⟩
    try dsimp only [cxOf, L2.Cx.nox]
    repeat contradiction
    refine re_allG (by simp [T, tabs]) (gin_name (by decide)) (ri_rng1 ?_)
    repeat contradiction
    refine rc_len (lenD_of hy) ?_
    repeat contradiction
    refine ⟨by omega, by omega, fun i O' => O' = O ∧ ascD (l.drop i) = some b, ⟨rfl, hb⟩, ?_, ?_⟩
    · rintro O' ⟨rfl, h⟩
      rw [asc_end (by rw [ints_len]; omega)] at h
      cases h
      exact p
    · rintro i dd O' ⟨rfl, h⟩ hi
      obtain ⟨hlt, rfl⟩ := ints_get hi
      rw [Int.zero_add]
      have h1 : i + 1 < l.length := by omega
      have hx := List.getElem?_eq_getElem (l := l) (i := i) (by omega)
      have hy' := List.getElem?_eq_getElem (l := l) (i := i + 1) h1
      refine rg_name (rt_yes ?_)
      repeat contradiction
      refine rr_ix hy (atI_nat hx) ?_
      repeat contradiction
      refine rr_ix hy (atI_nat hy') ?_
      rcases asc_step h hx hy' with ⟨q1, q2⟩ | ⟨q1, q2⟩
      · refine rr_lt (hp _ (List.getElem_mem _)) (hp _ (List.getElem_mem _)) (Nat.le_refl _) q1 ?_
        refine ⟨true, rfl, ?_⟩
        exact ⟨rfl, q2⟩
      · refine rr_lt (hp _ (List.getElem_mem _)) (hp _ (List.getElem_mem _)) (Nat.le_refl _) q1 ?_
        refine ⟨false, rfl, ?_⟩
        subst q2
        exact p

def headD : D → Str
  | .tup (.str x :: _) => x
  | _ => ""
/-- data whose kind is known, and the kinds of a tuple's items -/
def okD (d : D) : Prop := (∃ t, tyD d = some t) ∧ ∀ l, d = .tup l → ∀ x ∈ l, ∃ t, tyD x = some t
def spHead : Prm := fun xs O Pv => ∃ d, xs = [.d d] ∧ okD d ∧ Pv (.d (.str (headD d))) O
theorem ok_head {k : Nat} (X : Txt K mg base a) : FnOk P w K mg base CX0 (k + 1) a.f_head_of a.d_head_of ["thing"] (spOf K (T a) spHead) := by
  refine X.F_head_of.ok sc_head_of ?_ fun A outer s H E hr => ⟨_, (pss_cons (ps_if (PW.pt (pw_and (pt_val (pe_callB (call_isiK2 (K := K) rfl) (by rfl) X.m_isinstance (by decide +kernel) (pa_cons (pv 0) (pa_cons (pe_ty (n := "tuple") (by rfl) X.m_tuple (by decide +kernel)) pa_nil)))) (pw_and (pt_cmpR op_gt (pe_callB (call_lenK (K := K) rfl) (by rfl) X.m_len (by decide +kernel) (pa_cons (pv 0) pa_nil)) pe_int (nomark _)) (pw_and1 (pt_val (pe_callB (call_isiK2 (K := K) rfl) (by rfl) X.m_isinstance (by decide +kernel) (pa_cons (pe_ix (ix_seqK (K := K) rfl) (pv 0) pe_int (fun _ _ => rfl)) (pa_cons (pe_ty (n := "str") (by rfl) X.m_str (by decide +kernel)) pa_nil)))))))) (pss_one (ps_ret (pe_ix (ix_seqK (K := K) rfl) (pv 0) pe_int (fun _ _ => rfl)))) pss_nil) (pss_one (ps_ret pe_str))), ?_⟩
  · rintro xs O Pv ⟨d, rfl, _⟩
    rfl
  · rintro xs O Pv ⟨d, rfl, ⟨⟨t, ht⟩, hl⟩, p⟩
    try dsimp only [cxOf, L2.Cx.nox]
    cases d with
    | tup l =>
      cases ht
      cases l with
      | nil => (repeat contradiction); exact p
      | cons x l =>
        obtain ⟨t, ht⟩ := hl _ rfl x List.mem_cons_self
        cases x with
        | raw v => cases ht
        | _ => cases ht; (repeat contradiction); exact p
    | raw v => cases ht
    | _ => cases ht; (repeat contradiction); exact p
/-! ### names -/
def kept : List Str := ["ahead", "all", "apart", "bare", "both", "dense", "down", "either", "finite", "first", "last", "next", "not", "one", "same", "scattered", "some", "sub", "well"]
def letters26 : Str := "abcdefghijklmnopqrstuvwxyz"
def nameS (x : Str) : Bool := decide (1 ≤ x.length) && decide (x.length ≤ 8) && !kept.contains x && x.cps.toList.all fun c => decide (c ∈ letters26.cps.toList)
def nameD : D → Bool
  | .str x => nameS x
  | _ => false
def small (d : D) : Prop := (∃ t, tyD d = some t) ∧ ∀ x, d = .str x → x.length ≤ sizeLine
def spName : Prm := fun xs O Pv => ∃ d, xs = [.d d] ∧ small d ∧ Pv (.d (.bl (nameD d))) O
theorem in_txts (x : Str) : ∀ l : List Str, inD (.str x) (txts l) = l.contains x
  | [] => rfl
  | y :: l => by
    show (eqV (.str y) (.str x) || inD (.str x) (txts l)) = _
    rw [in_txts x l, List.contains_cons]
    show ((y == x) || l.contains x) = _
    rw [show (y == x) = (x == y) by rw [Bool.eq_iff_iff, beq_iff_eq, beq_iff_eq]; exact eq_comm]
theorem ok_name {k : Nat} (X : Txt K mg base a) (hk : ∀ F, Rp K F (.tup (txts kept)) (.ref a.o_KEPT)) : FnOk P w K mg base CX0 (k + 5) a.f_is_name a.d_is_name ["thing"] (spOf K (T a) spName) := by
  refine X.F_is_name.ok sc_is_name ?_ fun A outer s H E hr => ⟨_, (pss_cons (ps_if (PW.pt (pw_or (pt_not (pt_val (pe_callB (call_isiK2 (K := K) rfl) (by rfl) X.m_isinstance (by decide +kernel) (pa_cons (pv 0) (pa_cons (pe_ty (n := "str") (by rfl) X.m_str (by decide +kernel)) pa_nil))))) (pw_or (pt_not (pt_chain op_le op_le pe_int (pe_callB (call_lenK (K := K) rfl) (by rfl) X.m_len (by decide +kernel) (pa_cons (pv 0) pa_nil)) pe_int)) (pw_or1 (pt_cmpR (op_inK (K := K) rfl) (pv 0) (pe_globR (by rfl) X.g_KEPT) (by rfl)))))) (pss_one (ps_ret pe_bl)) pss_nil) (pss_one (ps_ret (Gx.pe_allG (own := ["sign"]) (cp := []) hr rfl (by rfl) X.m_all X.B_is_name rfl (Al.gok_by (N := ["thing"]) (sc := defScope s_is_name) (by decide +kernel)) (pi_str (pv 0)) (fun _ _ _ _ _ _ _ _ hg => (pg_name (i := 0) (show (["sign"] : List Str).Nodup by decide +kernel) rfl (.inl rfl))) (fun _ _ _ _ _ _ _ _ hg => pts_nil) (fun _ _ _ _ _ _ _ _ hg => (pe_cmpR op_in_sign (pv 0) (pe_globS (by rfl) X.g_LETTERS_OF_NAMES.choose_spec) (by rfl))))))), ?_⟩
  · rintro xs O Pv ⟨d, rfl, _⟩
    rfl
  · rintro xs O Pv ⟨d, rfl, ⟨⟨t, ht⟩, hs⟩, p⟩
    cases d with
    | raw v => cases ht
    | str x =>
      have hz := hs x rfl
      cases ht
      repeat contradiction
      have hlen : lenD (.str x) = some x.length := by show (if _ then _ else _) = _; rw [if_pos hz]
      -- a way out: no name
      have out : nameS x = false → Pv (.d (.bl false)) O := fun h => by rw [← h]; exact p
      refine re_chain ?_
      repeat contradiction
      refine rc_len hlen ?_
      repeat contradiction
      by_cases h1 : 1 ≤ x.length
      · refine ift (decide_eq_true (by omega)) ?_
        repeat contradiction
        by_cases h2 : x.length ≤ 8
        · rw [decide_eq_true (show (x.length : Int) ≤ 8 by omega)]
          repeat contradiction
          refine re_kTup hk ?_
          refine rr_in (l := txts kept) rfl rfl (by decide) ?_
          rw [in_txts]
          repeat contradiction
          by_cases h3 : kept.contains x = true
          · refine ift h3 ?_
            repeat contradiction
            exact out (by unfold nameS; rw [h3]; simp)
          · have h3 : kept.contains x = false := by simpa using h3
            refine iff' h3 ?_
            repeat contradiction
            refine re_allG (by simp [T, tabs]) (gin_name (by decide)) (ri_str ?_)
            repeat contradiction
            have hall : ∀ i, i ≤ x.cps.toList.length → (x.cps.toList.take i).all (fun c => decide (c ∈ letters26.cps.toList)) = true → (nameS x = (x.cps.toList.drop i).all fun c => decide (c ∈ letters26.cps.toList)) := fun i _ h => by
              have e : x.cps.toList.all (fun c => decide (c ∈ letters26.cps.toList)) = (x.cps.toList.drop i).all fun c => decide (c ∈ letters26.cps.toList) := by
                conv => lhs; rw [← List.take_append_drop i x.cps.toList]
                rw [List.all_append, h, Bool.true_and]
              unfold nameS
              rw [e, h3, decide_eq_true h1, decide_eq_true h2]
              rfl
            refine ⟨fun i O' => O' = O ∧ (x.cps.toList.take i).all (fun c => decide (c ∈ letters26.cps.toList)) = true, ⟨rfl, rfl⟩, ?_, ?_⟩
            · rintro O' ⟨rfl, h⟩
              have hl : (Al.signs x).length = x.cps.toList.length := by simp [Al.signs]
              rw [hl] at h
              have := hall _ (Nat.le_refl _) h
              rw [List.drop_length] at this
              have p : Pv (.d (.bl (nameS x))) O' := p
              rw [this] at p
              exact p
            · rintro i dd O' ⟨rfl, h⟩ hi
              have hi : x.cps.toList[i]?.map (fun c => D.str ⟨#[c]⟩) = some dd := by simpa [Al.signs] using hi
              obtain ⟨c, hc, rfl⟩ := Option.map_eq_some_iff.mp hi
              have hlt := (List.getElem?_eq_some_iff.mp hc).1
              refine rg_name (rt_yes ?_)
              repeat contradiction
              refine rr_inSign ?_
              refine ⟨_, rfl, ?_⟩
              by_cases hm : c ∈ letters26.cps.toList
              · refine ift (decide_eq_true hm) ⟨rfl, ?_⟩
                rw [List.take_add_one, hc, List.all_append, h]
                simpa using hm
              · refine iff' (decide_eq_false hm) ?_
                refine out ?_
                rw [hall i (Nat.le_of_lt hlt) h, List.drop_eq_getElem_cons hlt, List.all_cons]
                rw [show x.cps.toList[i] = c from (List.getElem?_eq_some_iff.mp hc).2, decide_eq_false hm]
                rfl
        · rw [decide_eq_false (show ¬ (x.length : Int) ≤ 8 by omega)]
          repeat contradiction
          exact out (by unfold nameS; rw [decide_eq_false h2]; simp)
      · refine iff' (decide_eq_false (by omega)) ?_
        repeat contradiction
        exact out (by unfold nameS; rw [decide_eq_false h1]; simp)
    | _ => cases ht; (repeat contradiction); exact p
end K0
end
section
set_option Elab.async false
set_option linter.all false
set_option maxRecDepth 100000
set_option maxHeartbeats 2000000
namespace K0
open PySem PySem.Spec PyProof.Rows L2 Al
variable {P : Program} {w : World} {K : PySem.W.Frag} {mg : Str → Option Value} {base : Heap} {a : Ad}
local macro_rules
  | `(tactic| contradiction) => `(tactic| first
    | with_reducible refine rs_seq ?_ | with_reducible refine rs_if ?_ | with_reducible refine rs_ret ?_ | with_reducible refine rt_and ?_ | with_reducible refine rt_or ?_ | with_reducible refine rt_not ?_ | with_reducible refine rt_test ?_ | with_reducible refine rt_B ?_ | with_reducible refine rs_asg ?_ | with_reducible refine rs_par ?_
    | with_reducible refine re_cb ?_ | with_reducible refine re_op ?_ | with_reducible refine re_if ?_ | with_reducible refine re_un ?_ | with_reducible refine ra_cons ?_ | with_reducible refine ra_nil ?_ | with_reducible refine re_int ?_ | with_reducible refine re_str ?_ | with_reducible refine re_bl ?_ | with_reducible refine re_non ?_ | with_reducible refine re_ty ?_ 
    | refine re_var rfl (fun z => by cases z) ?_ | with_reducible refine rr_b ?_ | with_reducible refine rr_i ?_ | with_reducible refine ru_i ?_
    | with_reducible refine rc_isi rfl (by first | exact (show kitB _ _ = some true by decide +kernel) | exact (show kitB _ _ = some false by decide +kernel)) ?_
    | with_reducible refine rc_len rfl ?_ | with_reducible refine rr_ix rfl atI_0 ?_ | with_reducible refine rr_ix rfl atI_1 ?_
    | with_reducible refine rr_eqF rfl ?_ | with_reducible refine rr_neF rfl ?_ | with_reducible refine rr_addI ?_ | with_reducible refine rc_abs ?_ | with_reducible refine rc_int ?_ | with_reducible refine rc_min ?_
    | refine ⟨_, rfl, ?_⟩ | rw [if_pos rfl] | rw [if_neg Bool.false_ne_true] | with_reducible refine rs_next ?_ | (with_reducible refine ift ?_ ?_; focus (simp; done)) | (with_reducible refine iff' ?_ ?_; focus (simp; done)) | dsimp only)


/-! ### scopes -/
def scopeD : D → Bool
  | .tup l => decide (l.length ≤ 3) && l.all nameD && decide (ascD l = some true)
  | _ => false
theorem scope_tup (l : List D) : scopeD (.tup l) = (decide (l.length ≤ 3) && l.all nameD && decide (ascD l = some true)) := rfl
theorem name_ok {x : Str} (h : nameS x = true) : plain 64 (.str x) = true := by
  unfold nameS at h
  simp only [Bool.and_eq_true] at h
  show PyData.strOk x = true
  unfold PyData.strOk
  rw [Array.all_eq_true_iff_forall_mem]
  intro c hc
  have := List.all_eq_true.mp h.2 c (by simpa using hc)
  have hm := of_decide_eq_true this
  have hl : ∀ c ∈ letters26.cps.toList, decide (c < 0x110000) = true := by decide +kernel
  exact hl c hm
theorem name_str {d : D} (h : nameD d = true) : ∃ x, d = .str x ∧ nameS x = true := by
  cases d <;> first | (rename_i x; exact ⟨x, rfl, h⟩) | cases h
theorem asc_names : ∀ l : List D, l.all nameD = true → ∃ b, ascD l = some b
  | [], _ => ⟨true, rfl⟩
  | [x], _ => ⟨true, rfl⟩
  | x :: y :: r, h => by
    rw [List.all_cons, List.all_cons, Bool.and_eq_true, Bool.and_eq_true] at h
    obtain ⟨u, rfl, _⟩ := name_str h.1
    obtain ⟨v, rfl, _⟩ := name_str h.2.1
    rw [ascD]
    have e : ltD (.str u) (.str v) = some (decide (u.cps.toList < v.cps.toList)) := by rw [ltD]
    rw [e]
    cases decide (u.cps.toList < v.cps.toList) with
    | false => exact ⟨false, rfl⟩
    | true => exact asc_names (.str v :: r) (by rw [List.all_cons, h.2.1, h.2.2]; rfl)
/-- items whose kind is known, texts not too long -/
def smallL (d : D) : Prop := (∃ t, tyD d = some t) ∧ ∀ l, d = .tup l → ∀ x ∈ l, small x
def spScope : Prm := fun xs O Pv => ∃ d, xs = [.d d] ∧ smallL d ∧ Pv (.d (.bl (scopeD d))) O
theorem ok_scope {k : Nat} (X : Txt K mg base a) (hk : ∀ F, Rp K F (.tup (txts kept)) (.ref a.o_KEPT)) : FnOk P w K mg base CX0 (k + 10) a.f_is_scope a.d_is_scope ["thing"] (spOf K (T a) spScope) := by
  have G_is_name := ok_name (P := P) (w := w) (k := k) X hk
  have G_is_ascending := ok_asc (P := P) (w := w) (k := k) X
  refine X.F_is_scope.ok sc_is_scope ?_ fun A outer s H E hr => ⟨_, (pss_cons (ps_if (PW.pt (pw_or (pt_not (pt_val (pe_callB (call_isiK2 (K := K) rfl) (by rfl) X.m_isinstance (by decide +kernel) (pa_cons (pv 0) (pa_cons (pe_ty (n := "tuple") (by rfl) X.m_tuple (by decide +kernel)) pa_nil))))) (pw_or1 (pt_cmpR op_gt (pe_callB (call_lenK (K := K) rfl) (by rfl) X.m_len (by decide +kernel) (pa_cons (pv 0) pa_nil)) pe_int (nomark _))))) (pss_one (ps_ret pe_bl)) pss_nil) (pss_one (ps_ret (pe_and (Gx.pe_allG (own := ["name"]) (cp := []) hr rfl (by rfl) X.m_all X.B_is_scope rfl (Al.gok_by (N := ["thing"]) (sc := defScope s_is_scope) (by decide +kernel)) (Al.pi_seqK (K := K) rfl (pv 0)) (fun _ _ _ _ _ _ _ _ hg => (pg_name (i := 0) (show (["name"] : List Str).Nodup by decide +kernel) rfl (.inl rfl))) (fun _ _ _ _ _ _ _ _ hg => pts_nil) (fun _ _ _ _ _ _ _ _ hg => (pe_call (G_is_name) (hg.mono (by omega)) (by rfl) X.g_is_name X.F_is_name.kp X.b_is_name .nil pass0 (pa_cons (pv 0) pa_nil)))) (pe_one (pe_call (G_is_ascending) (hr.mono (by omega)) (by rfl) X.g_is_ascending X.F_is_ascending.kp X.b_is_ascending .nil pass0 (pa_cons (pv 0) pa_nil))))))), ?_⟩
  · rintro xs O Pv ⟨d, rfl, _⟩
    rfl
  · rintro xs O Pv ⟨d, rfl, ⟨⟨t, ht⟩, hs⟩, p⟩
    cases d with
    | raw v => cases ht
    | tup l =>
      have hs := hs l rfl
      cases ht
      have out : scopeD (.tup l) = false → Pv (.d (.bl false)) O := fun h => by rw [← h]; exact p
      repeat contradiction
      by_cases h1 : l.length ≤ 3
      · refine iff' (decide_eq_false (by omega)) ?_
        repeat contradiction
        refine re_andV ?_
        refine re_allG (by simp [T, tabs]) (gin_name (by decide)) (ri_seq ?_)
        repeat contradiction
        refine ⟨_, _, rfl, rfl, fun i O' => O' = O ∧ (l.take i).all nameD = true, ⟨rfl, rfl⟩, ?_, ?_⟩
        · rintro O' ⟨rfl, h⟩
          rw [List.take_length] at h
          obtain ⟨b, hb⟩ := asc_names l h
          refine ⟨true, rfl, ift rfl ?_⟩
          refine re_callF ?_
          repeat contradiction
          refine ⟨[], O', .refl _, .tup l, l, b, rfl, rfl, by omega, fun x hx => ?_, hb, ?_⟩
          · obtain ⟨u, rfl, hu⟩ := name_str (List.all_eq_true.mp h x hx)
            exact name_ok hu
          · have e : scopeD (.tup l) = b := by
              rw [scope_tup, h, hb, decide_eq_true h1]
              cases b <;> rfl
            rw [← e]
            exact p
        · rintro i dd O' ⟨rfl, h⟩ hi
          have hm := List.mem_of_getElem? hi
          refine rg_name (rt_yes ?_)
          repeat contradiction
          refine re_callF ?_
          repeat contradiction
          refine ⟨[], O', .refl _, dd, rfl, hs dd hm, nameD dd, rfl, ?_⟩
          by_cases hn : nameD dd = true
          · refine ift hn ⟨rfl, ?_⟩
            rw [List.take_add_one, hi, List.all_append, h]
            simpa using hn
          · refine iff' (by simpa using hn) ?_
            refine ⟨false, rfl, iff' rfl (out ?_)⟩
            rw [scope_tup]
            have : l.all nameD = false := by
              rw [List.all_eq_false]
              exact ⟨dd, hm, hn⟩
            rw [this]
            simp
      · refine ift (decide_eq_true (by omega)) ?_
        repeat contradiction
        exact out (by rw [scope_tup, decide_eq_false h1]; rfl)
    | _ => cases ht; (repeat contradiction); exact p

/-! ### letters -/
def bitOn (m i : Nat) : Bool := Builtin.bitAnd ((m : Int) / 2 ^ i) 1 != 0
def pickB (m : Nat) (l : List D) : List D := (l.zipIdx.filter fun p => bitOn m p.2).map (·.1)
def rowD (l : List D) : List D := (List.range (2 ^ l.length)).map fun m => .tup (pickB m l)
theorem pick_snoc (m : Nat) (l : List D) (x : D) : pickB m (l ++ [x]) = if bitOn m l.length = true then pickB m l ++ [x] else pickB m l := by
  unfold pickB
  rw [List.zipIdx_append, List.filter_append, List.map_append]
  simp only [List.zipIdx_cons, List.zipIdx_nil, Nat.zero_add]
  by_cases h : bitOn m l.length = true
  · rw [if_pos h]; simp [h]
  · rw [if_neg h]; simp [h]
theorem pick_len (m : Nat) (l : List D) : (pickB m l).length ≤ l.length := by
  unfold pickB
  rw [List.length_map]
  exact Nat.le_trans (List.length_filter_le _ _) (by simp)
def spRow : Prm := fun xs O Pv => ∃ l, xs = [.d (.tup l)] ∧ l.length ≤ 3 ∧ Pv (.d (.tup (rowD l))) O
theorem ok_row {k : Nat} (X : Txt K mg base a) : FnOk P w K mg base CX0 (k + 1) a.f_letter_row a.d_letter_row ["scope"] (spOf K (T a) spRow) := by
  refine X.F_letter_row.ok sc_letter_row ?_ fun A outer s H E hr => ⟨_, (pss_cons (ps_set (i := 1) sc_letter_row.nd rfl (by first | exact .inl rfl | exact .inr rfl) (pe_lst pa_nil)) (pss_cons (ps_for PassesOwn.never rfl (pi_range1 (by rfl) X.m_range (pa_cons (pe_op op_shl pe_int (pe_callB (call_lenK (K := K) rfl) (by rfl) X.m_len (by decide +kernel) (pa_cons (pv 0) pa_nil))) pa_nil)) (pg_name (i := 2) sc_letter_row.nd rfl (by first | exact .inl rfl | exact .inr rfl)) (pss_one (ps_expr (pe_bm PySem.F.plainAttrs_list PySem.F.slot_list_append PySem.F.type_list_append mt_append (pv 1) (pa_cons (pe_callTy (call_tupleK (K := K) rfl) (by rfl) X.m_tuple (by decide +kernel) (pa_cons (pe_lc (own := [("at", 3), ("name", 4)]) rfl sc_letter_row.nd (pi_enumK (K := K) rfl (by rfl) X.m_enumerate (pa_cons (pv 0) pa_nil)) (blkOk_by (own := [("at", 3), ("name", 4)]) (N := ["scope", "row", "number", "at", "name"]) (sc := defScope s_letter_row) (by decide +kernel)) (fun _ _ _ _ _ => (pg_tupK (K := K) (n := 2) rfl rfl (pgs_cons (pg_name (i := 3) sc_letter_row.nd rfl (by first | exact .inl rfl | exact .inr rfl)) (pgs_cons (pg_name (i := 4) sc_letter_row.nd rfl (by first | exact .inl rfl | exact .inr rfl)) pgs_nil)))) (fun _ _ _ _ _ => (pts_one (pt_truthK (K := K) rfl (pe_op op_and (pe_op op_shr (pv 2) (pv 3)) pe_int) (by intro _; rfl)))) (fun _ _ _ _ _ => (pv 4))) pa_nil)) pa_nil))))) (pss_one (ps_ret (pe_callTy (call_tupleK (K := K) rfl) (by rfl) X.m_tuple (by decide +kernel) (pa_cons (pv 1) pa_nil)))))), ?_⟩
  · rintro xs O Pv ⟨l, rfl, _⟩
    rfl
  · rintro xs O Pv ⟨l, rfl, hl, p⟩
    repeat contradiction
    refine re_lstOD ?_
    repeat contradiction
    refine ⟨rfl, fun q => ?_⟩
    repeat contradiction
    have hn : (1 : Int) * 2 ^ ((l.length : Int)).toNat = (((rowD l).length : Nat) : Int) := by simp [rowD]
    have h8 : (rowD l).length ≤ 8 := by
      have := Nat.pow_le_pow_right (show 0 < 2 by decide) hl
      simpa [rowD] using this
    refine rs_for (ri_rng1 ?_)
    repeat contradiction
    refine rr_ic ⟨by omega, by omega, by decide⟩ ?_
    rw [hn]
    repeat contradiction
    refine ⟨by omega, by omega, fun i ρ' O' => O' = (q, .ls ((rowD l).take i)) :: O ∧ ∃ y z u, ρ' = [.d (.tup l), .o q, y, z, u], ⟨rfl, _, _, _, rfl⟩, ?_, ?_⟩
    · rintro ρ' O' ⟨rfl, y, z, u, rfl⟩
      rw [ints_len, Int.toNat_natCast, List.take_length]
      refine rs_ret (re_dropPost ?_)
      repeat contradiction
      refine rc_tupleO (.head _) ⟨_, _, rfl, p⟩
    · rintro i dd ρ' O' ⟨rfl, y, z, u, rfl⟩ hi
      obtain ⟨hlt, rfl⟩ := ints_get hi
      rw [Int.zero_add]
      rw [Int.toNat_natCast] at hlt
      refine rg_name ?_
      refine rs_drop ?_
      refine re_append ?_
      repeat contradiction
      refine ⟨_, _, rfl, .head _, ?_⟩
      repeat contradiction
      refine re_lc (gin_two (by decide) (by decide)) (ri_enum ?_)
      repeat contradiction
      refine ⟨_, _, rfl, rfl, fun j acc O' => O' = (q, .ls ((rowD l).take i)) :: O ∧ acc = pickB i (l.take j) ∧ acc.length ≤ j, ⟨rfl, rfl, Nat.le_refl _⟩, small1000 (by rw [Al.pairs_len]; omega), ?_, ?_⟩
      · rintro acc O' ⟨rfl, rfl, _⟩
        rw [Al.pairs_len, List.take_length]
        repeat contradiction
        refine rc_tuple rfl ?_
        refine ⟨_, _, _, rfl, .refl _, small1000 (by rw [List.length_take]; omega), ?_⟩
        have hr : (rowD l)[i]? = some (.tup (pickB i l)) := by
          have : i < 2 ^ l.length := by simpa [rowD] using hlt
          unfold rowD
          rw [List.getElem?_map, List.getElem?_range this]
          rfl
        refine ⟨by rw [List.take_add_one, hr]; rfl, _, _, _, rfl⟩
      · rintro j dd acc O' ⟨rfl, rfl, hj⟩ hi2
        obtain ⟨x, hx, rfl⟩ := pairs_get hi2
        have hjl : j < l.length := (List.getElem?_eq_some_iff.mp hx).1
        have ht : l.take (j + 1) = l.take j ++ [x] := by rw [List.take_add_one, hx]; rfl
        have hlen : (l.take j).length = j := by rw [List.length_take]; omega
        refine rg_two (rt_truth ?_)
        repeat contradiction
        refine rr_ic (by omega) ?_
        repeat contradiction
        have hb : (Builtin.bitAnd (((i : Nat) : Int) / 2 ^ ((j : Nat) : Int).toNat) 1 != 0) = bitOn i j := by
          unfold bitOn
          rw [Int.toNat_natCast]
        refine ⟨_, _, rfl, rfl, ?_⟩
        rw [hb]
        by_cases h : bitOn i j = true
        · refine ift h ?_
          repeat contradiction
          refine ⟨hj, rfl, ?_, ?_⟩
          · rw [ht, pick_snoc, hlen, if_pos h]
          · rw [List.length_append]; exact Nat.succ_le_succ hj
        · refine iff' (by simpa using h) ?_
          refine ⟨rfl, ?_, Nat.le_succ_of_le hj⟩
          rw [ht, pick_snoc, hlen, if_neg h]
end K0
end
section
set_option Elab.async false
set_option linter.all false
set_option maxRecDepth 100000
set_option maxHeartbeats 2000000
namespace K0
open PySem PySem.Spec PyProof.Rows L2 Al
variable {P : Program} {w : World} {K : PySem.W.Frag} {mg : Str → Option Value} {base : Heap} {a : Ad}
local macro_rules
  | `(tactic| contradiction) => `(tactic| first
    | with_reducible refine rs_seq ?_ | with_reducible refine rs_if ?_ | with_reducible refine rs_ret ?_ | with_reducible refine rt_and ?_ | with_reducible refine rt_or ?_ | with_reducible refine rt_not ?_ | with_reducible refine rt_test ?_ | with_reducible refine rt_B ?_ | with_reducible refine rs_asg ?_ | with_reducible refine rs_par ?_
    | with_reducible refine re_cb ?_ | with_reducible refine re_op ?_ | with_reducible refine re_if ?_ | with_reducible refine re_un ?_ | with_reducible refine ra_cons ?_ | with_reducible refine ra_nil ?_ | with_reducible refine re_int ?_ | with_reducible refine re_str ?_ | with_reducible refine re_bl ?_ | with_reducible refine re_non ?_ | with_reducible refine re_ty ?_ 
    | refine re_var rfl (fun z => by cases z) ?_ | with_reducible refine rr_b ?_ | with_reducible refine rr_i ?_ | with_reducible refine ru_i ?_
    | with_reducible refine rc_isi rfl (by first | exact (show kitB _ _ = some true by decide +kernel) | exact (show kitB _ _ = some false by decide +kernel)) ?_
    | with_reducible refine rc_len rfl ?_ | with_reducible refine rr_ix rfl atI_0 ?_ | with_reducible refine rr_ix rfl atI_1 ?_
    | with_reducible refine rr_eqF rfl ?_ | with_reducible refine rr_neF rfl ?_ | with_reducible refine rr_addI ?_ | with_reducible refine rc_abs ?_ | with_reducible refine rc_int ?_ | with_reducible refine rc_min ?_
    | refine ⟨_, rfl, ?_⟩ | rw [if_pos rfl] | rw [if_neg Bool.false_ne_true] | with_reducible refine rs_next ?_ | (with_reducible refine ift ?_ ?_; focus (simp; done)) | (with_reducible refine iff' ?_ ?_; focus (simp; done)) | dsimp only)



/-! ### is_letter -/
def inSc (sc : List Str) : D → Bool
  | .str u => sc.contains u
  | _ => false
def letterD (sc : List Str) : D → Bool
  | .tup l => decide (l.length ≤ sc.length) && l.all (inSc sc) && decide (ascD l = some true)
  | _ => false
theorem letter_tup (sc : List Str) (l : List D) : letterD sc (.tup l) = (decide (l.length ≤ sc.length) && l.all (inSc sc) && decide (ascD l = some true)) := rfl
theorem inSc_str {sc : List Str} {d : D} (h : inSc sc d = true) : ∃ u, d = .str u ∧ u ∈ sc := by
  cases d <;> first | (rename_i u; exact ⟨u, rfl, by simpa [inSc] using h⟩) | cases h
theorem txts_all (sc : List Str) : (txts sc).all flatD = true := by
  rw [List.all_eq_true]
  intro x hx
  obtain ⟨u, _, rfl⟩ := List.mem_map.mp hx
  rfl
/-- the kinds of a tuple's items are known -/
def kinds (d : D) : Prop := (∃ t, tyD d = some t) ∧ ∀ l, d = .tup l → ∀ x ∈ l, ∃ t, tyD x = some t
def spLetter : Prm := fun xs O Pv => ∃ sc d, xs = [.d (.tup (txts sc)), .d d] ∧ sc.length ≤ 3 ∧ (∀ u ∈ sc, nameS u = true) ∧ kinds d ∧ Pv (.d (.bl (letterD sc d))) O
theorem ok_letter {k : Nat} (X : Txt K mg base a) : FnOk P w K mg base CX0 (k + 10) a.f_is_letter a.d_is_letter ["scope", "thing"] (spOf K (T a) spLetter) := by
  have G_is_ascending := ok_asc (P := P) (w := w) (k := k) X
  refine X.F_is_letter.ok sc_is_letter ?_ fun A outer s H E hr => ⟨_, (pss_cons (ps_if (PW.pt (pw_or (pt_not (pt_val (pe_callB (call_isiK2 (K := K) rfl) (by rfl) X.m_isinstance (by decide +kernel) (pa_cons (pv 1) (pa_cons (pe_ty (n := "tuple") (by rfl) X.m_tuple (by decide +kernel)) pa_nil))))) (pw_or1 (pt_cmpR op_gt (pe_callB (call_lenK (K := K) rfl) (by rfl) X.m_len (by decide +kernel) (pa_cons (pv 1) pa_nil)) (pe_callB (call_lenK (K := K) rfl) (by rfl) X.m_len (by decide +kernel) (pa_cons (pv 0) pa_nil)) (nomark _))))) (pss_one (ps_ret pe_bl)) pss_nil) (pss_one (ps_ret (pe_and (Gx.pe_allG (own := ["name"]) (cp := [("scope", 0)]) hr rfl (by rfl) X.m_all X.B_is_letter rfl (Al.gok_by (N := ["scope", "thing"]) (sc := defScope s_is_letter) (by decide +kernel)) (Al.pi_seqK (K := K) rfl (pv 1)) (fun _ _ _ _ _ _ _ _ hg => (pg_name (i := 0) (show (["name", "scope"] : List Str).Nodup by decide +kernel) rfl (.inl rfl))) (fun _ _ _ _ _ _ _ _ hg => pts_nil) (fun _ _ _ _ _ _ _ _ hg => (pe_and (pe_callB (call_isiK2 (K := K) rfl) (by rfl) X.m_isinstance (by decide +kernel) (pa_cons (pv 0) (pa_cons (pe_ty (n := "str") (by rfl) X.m_str (by decide +kernel)) pa_nil))) (pe_one (pe_cmpR (op_inK (K := K) rfl) (pv 0) (pv 1) (by rfl)))))) (pe_one (pe_call (G_is_ascending) (hr.mono (by omega)) (by rfl) X.g_is_ascending X.F_is_ascending.kp X.b_is_ascending .nil pass0 (pa_cons (pv 1) pa_nil))))))), ?_⟩
  · rintro xs O Pv ⟨sc, d, rfl, _⟩
    rfl
  · rintro xs O Pv ⟨sc, d, rfl, h3, hsc, ⟨⟨t, ht⟩, hs⟩, p⟩
    cases d with
    | raw v => cases ht
    | tup l =>
      have hs := hs l rfl
      cases ht
      have out : letterD sc (.tup l) = false → Pv (.d (.bl false)) O := fun h => by rw [← h]; exact p
      have hsl : (txts sc).length = sc.length := by simp [txts]
      repeat contradiction
      rw [hsl]
      by_cases h1 : l.length ≤ sc.length
      · refine iff' (decide_eq_false (by omega)) ?_
        repeat contradiction
        refine re_andV ?_
        refine re_allG (by simp [T, tabs]) (gin_name (by decide)) (ri_seq ?_)
        repeat contradiction
        refine ⟨_, _, rfl, rfl, fun i O' => O' = O ∧ (l.take i).all (inSc sc) = true, ⟨rfl, rfl⟩, ?_, ?_⟩
        · rintro O' ⟨rfl, h⟩
          rw [List.take_length] at h
          have hn : l.all nameD = true := by
            rw [List.all_eq_true]
            intro x hx
            obtain ⟨u, rfl, hu⟩ := inSc_str (List.all_eq_true.mp h x hx)
            exact hsc u hu
          obtain ⟨b, hb⟩ := asc_names l hn
          refine ⟨true, rfl, ift rfl ?_⟩
          refine re_callF ?_
          repeat contradiction
          refine ⟨[], O', .refl _, .tup l, l, b, rfl, rfl, by omega, fun x hx => ?_, hb, ?_⟩
          · obtain ⟨u, rfl, hu⟩ := name_str (List.all_eq_true.mp hn x hx)
            exact name_ok hu
          · have e : letterD sc (.tup l) = b := by
              rw [letter_tup, h, hb, decide_eq_true h1]
              cases b <;> rfl
            rw [← e]
            exact p
        · rintro i dd O' ⟨rfl, h⟩ hi
          have hm := List.mem_of_getElem? hi
          have bad : inSc sc dd = false → Pv (.d (.bl false)) O' := fun hn => out (by
            rw [letter_tup]
            have : l.all (inSc sc) = false := by
              rw [List.all_eq_false]
              exact ⟨dd, hm, by rw [hn]; exact Bool.false_ne_true⟩
            rw [this]
            simp)
          obtain ⟨t, ht⟩ := hs dd hm
          refine rg_name (rt_yes ?_)
          repeat contradiction
          refine re_andV ?_
          cases dd with
          | raw v => cases ht
          | str u =>
            cases ht
            repeat contradiction
            refine rr_in (l := txts sc) rfl rfl (txts_all sc) ?_
            rw [in_txts]
            by_cases hu : sc.contains u = true
            · refine ⟨_, rfl, ift (by simpa using hu) ⟨rfl, ?_⟩⟩
              rw [List.take_add_one, hi, List.all_append, h]
              show (true && (inSc sc (.str u) && true)) = true
              rw [show inSc sc (.str u) = true from hu]
              rfl
            · exact ⟨_, rfl, iff' (by simpa using hu) ⟨_, rfl, iff' rfl (bad (by simpa [inSc] using hu))⟩⟩
          | _ => cases ht; (repeat contradiction); exact bad rfl
      · refine ift (decide_eq_true (by omega)) ?_
        repeat contradiction
        exact out (by rw [letter_tup, decide_eq_false h1]; rfl)
    | _ => cases ht; (repeat contradiction); exact p
end K0
end
section
set_option Elab.async false
set_option linter.all false
set_option maxRecDepth 100000
set_option maxHeartbeats 2000000
namespace K0
open PySem PySem.Spec PyProof.Rows L2 Al
variable {P : Program} {w : World} {K : PySem.W.Frag} {mg : Str → Option Value} {base : Heap} {a : Ad}
local macro_rules
  | `(tactic| contradiction) => `(tactic| first
    | with_reducible refine rs_seq ?_ | with_reducible refine rs_if ?_ | with_reducible refine rs_ret ?_ | with_reducible refine rt_and ?_ | with_reducible refine rt_or ?_ | with_reducible refine rt_not ?_ | with_reducible refine rt_test ?_ | with_reducible refine rt_B ?_ | with_reducible refine rs_asg ?_ | with_reducible refine rs_par ?_
    | with_reducible refine re_cb ?_ | with_reducible refine re_op ?_ | with_reducible refine re_if ?_ | with_reducible refine re_un ?_ | with_reducible refine ra_cons ?_ | with_reducible refine ra_nil ?_ | with_reducible refine re_int ?_ | with_reducible refine re_str ?_ | with_reducible refine re_bl ?_ | with_reducible refine re_non ?_ | with_reducible refine re_ty ?_ 
    | refine re_var rfl (fun z => by cases z) ?_ | with_reducible refine rr_b ?_ | with_reducible refine rr_i ?_ | with_reducible refine ru_i ?_
    | with_reducible refine rc_isi rfl (by first | exact (show kitB _ _ = some true by decide +kernel) | exact (show kitB _ _ = some false by decide +kernel)) ?_
    | with_reducible refine rc_len rfl ?_ | with_reducible refine rr_ix rfl atI_0 ?_ | with_reducible refine rr_ix rfl atI_1 ?_
    | with_reducible refine rr_eqF rfl ?_ | with_reducible refine rr_neF rfl ?_ | with_reducible refine rr_addI ?_ | with_reducible refine rc_abs ?_ | with_reducible refine rc_int ?_ | with_reducible refine rc_min ?_
    | refine ⟨_, rfl, ?_⟩ | rw [if_pos rfl] | rw [if_neg Bool.false_ne_true] | with_reducible refine rs_next ?_ | (with_reducible refine ift ?_ ?_; focus (simp; done)) | (with_reducible refine iff' ?_ ?_; focus (simp; done)) | dsimp only)




/-! ### knots -/
def shapes : List (Str × Int) := [("none", 1), ("letter", 2), ("then", 3), ("on", 2), ("back", 2), ("mix", 2)]
/-- what stands behind the head of a knot -/
def restOk (sc : List Str) (h : Str) (r : List D) : Bool :=
  if (h == "letter") = true then (match r with | x :: _ => letterD sc x | [] => false) else if (h == "mix") = true then (match r with | .tup m :: _ => !m.isEmpty | _ => false) else true
def knotD (sc : List Str) : D → Bool
  | .tup (.str h :: r) => (match getS shapes h with | some n => ((((r.length + 1 : Nat) : Int) == n) && restOk sc h r) | none => false)
  | _ => false
/-- kinds are known two steps down -/
def kinds2 (d : D) : Prop := (∃ t, tyD d = some t) ∧ ∀ l, d = .tup l → ∀ x ∈ l, kinds x
def spKnot : Prm := fun xs O Pv => ∃ sc d, xs = [.d (.tup (txts sc)), .d d] ∧ sc.length ≤ 3 ∧ (∀ u ∈ sc, nameS u = true) ∧ kinds2 d ∧ Pv (.d (.bl (knotD sc d))) O
theorem knot_head {sc : List Str} {d : D} (h : getS shapes (headD d) = none) : knotD sc d = false := by
  cases d with
  | tup l =>
    cases l with
    | nil => rfl
    | cons x r =>
      cases x with
      | str u =>
        have h : getS shapes u = none := h
        show (match getS shapes u with | some n => _ | none => false) = false
        rw [h]
      | _ => rfl
  | _ => rfl
theorem head_cons {d : D} {n : Int} (h : getS shapes (headD d) = some n) : ∃ u r, d = .tup (.str u :: r) := by
  have h0 : getS shapes "" = none := by decide +kernel
  cases d with
  | tup l =>
    cases l with
    | nil => rw [show headD (.tup []) = "" from rfl, h0] at h; cases h
    | cons x r =>
      cases x with
      | str u => exact ⟨u, r, rfl⟩
      | _ => rw [show headD _ = "" from rfl, h0] at h; cases h
  | _ => rw [show headD _ = "" from rfl, h0] at h; cases h
theorem ok_knot {k : Nat} (X : Txt K mg base a) (hS : KInts K w a.o_SHAPES shapes) : FnOk P w K mg base CX0 (k + 11) a.f_is_knot a.d_is_knot ["scope", "thing"] (spOf K (T a) spKnot) := by
  have G_head_of := ok_head (P := P) (w := w) (k := k) X
  have G_is_letter := ok_letter (P := P) (w := w) (k := k) X
  refine X.F_is_knot.ok sc_is_knot ?_ fun A outer s H E hr => ⟨_, (pss_cons (ps_set (i := 2) sc_is_knot.nd rfl (by first | exact .inl rfl | exact .inr rfl) (pe_call (G_head_of) (hr.mono (by omega)) (by rfl) X.g_head_of X.F_head_of.kp X.b_head_of .nil pass0 (pa_cons (pv 1) pa_nil))) (pss_cons (ps_if (PW.pt (pw_or (pt_cmpR (op_notInKD hS) (pv 2) (pe_globR (by rfl) X.g_SHAPES) (by rfl)) (pw_or1 (pt_cmpR (op_neAK (K := K) rfl (Al.room_u hr)) (pe_callB (call_lenK (K := K) rfl) (by rfl) X.m_len (by decide +kernel) (pa_cons (pv 1) pa_nil)) (pe_ix (ix_KD hS) (pe_globR (by rfl) X.g_SHAPES) (pv 2) (fun _ _ => rfl)) (nomark _))))) (pss_one (ps_ret pe_bl)) pss_nil) (pss_cons (ps_if (pt_cmpR (op_eqAK (K := K) rfl (Al.room_u hr)) (pv 2) pe_str (nomark _)) (pss_one (ps_ret (pe_call (G_is_letter) (hr.mono (by omega)) (by rfl) X.g_is_letter X.F_is_letter.kp X.b_is_letter .nil pass0 (pa_cons (pv 0) (pa_cons (pe_ix (ix_seqK (K := K) rfl) (pv 1) pe_int (fun _ _ => rfl)) pa_nil))))) pss_nil) (pss_one (ps_ret (pe_or (pe_cmpR (op_neAK (K := K) rfl (Al.room_u hr)) (pv 2) pe_str (nomark _)) (pe_one (pe_and (pe_callB (call_isiK2 (K := K) rfl) (by rfl) X.m_isinstance (by decide +kernel) (pa_cons (pe_ix (ix_seqK (K := K) rfl) (pv 1) pe_int (fun _ _ => rfl)) (pa_cons (pe_ty (n := "tuple") (by rfl) X.m_tuple (by decide +kernel)) pa_nil))) (pe_one (pe_cmpR op_gt (pe_callB (call_lenK (K := K) rfl) (by rfl) X.m_len (by decide +kernel) (pa_cons (pe_ix (ix_seqK (K := K) rfl) (pv 1) pe_int (fun _ _ => rfl)) pa_nil)) pe_int (nomark _))))))))))), ?_⟩
  · rintro xs O Pv ⟨sc, d, rfl, _⟩
    rfl
  · rintro xs O Pv ⟨sc, d, rfl, h3, hsc, ⟨ht, hs⟩, p⟩
    repeat contradiction
    refine re_callF ?_
    repeat contradiction
    refine ⟨[], O, .refl _, d, rfl, ⟨ht, fun l hl x hx => (hs l hl x hx).1⟩, ?_⟩
    repeat contradiction
    refine re_raw (rr_kin ?_)
    refine ⟨_, rfl, ?_⟩
    cases hg : getS shapes (headD d) with
    | none =>
      refine ift rfl ?_
      repeat contradiction
      rw [knot_head hg] at p
      exact p
    | some n =>
      obtain ⟨u, r, rfl⟩ := head_cons hg
      have hg : getS shapes u = some n := hg
      have hk : knotD sc (.tup (.str u :: r)) = ((((r.length + 1 : Nat) : Int) == n) && restOk sc u r) := by
        show (match getS shapes u with | some n => _ | none => false) = _
        rw [hg]
      refine iff' rfl ?_
      repeat contradiction
      refine re_raw ?_
      repeat contradiction
      refine rr_kget hg ?_
      repeat contradiction
      have hks := hs _ rfl
      have elen : eqD (.int (((.str u :: r : List D).length : Nat) : Int)) (.int n) = ((((r.length + 1 : Nat) : Int)) == n) := rfl
      rw [elen]
      rw [hk] at p
      cases hn : ((((r.length + 1 : Nat) : Int)) == n) with
      | false =>
        rw [hn] at p
        refine ift rfl ?_
        repeat contradiction
        exact p
      | true =>
        rw [hn, Bool.true_and] at p
        have hn : ((r.length + 1 : Nat) : Int) = n := eq_of_beq hn
        refine iff' rfl ?_
        repeat contradiction
        have e1 : eqD (.str u) (.str "letter") = (u == "letter") := rfl
        have e2 : eqD (.str u) (.str "mix") = (u == "mix") := rfl
        have e0 : headD (.tup (.str u :: r)) = u := rfl
        rw [e0, e1]
        unfold restOk at p
        cases hl : (u == "letter") with
        | true =>
          rw [if_pos hl] at p
          have hu : u = "letter" := eq_of_beq hl
          have h2 : getS shapes "letter" = some 2 := by decide +kernel
          rw [hu, h2] at hg
          cases hg
          obtain ⟨x, rfl⟩ : ∃ x, r = [x] := by
            match r, hn with
            | [x], _ => exact ⟨x, rfl⟩
            | [], h => simp at h
            | _ :: _ :: _, h => simp at h; omega
          refine ift rfl ?_
          refine rs_ret (re_callF ?_)
          repeat contradiction
          exact ⟨[], O, .refl _, sc, x, rfl, h3, hsc, hks x (.tail _ (.head _)), p⟩
        | false =>
          rw [if_neg (by rw [hl]; exact Bool.false_ne_true)] at p
          refine iff' rfl ?_
          refine rs_next (rs_ret (re_orV ?_))
          repeat contradiction
          rw [e2]
          cases hm : (u == "mix") with
          | false =>
            rw [if_neg (by rw [hm]; exact Bool.false_ne_true)] at p
            refine ift rfl ?_
            exact p
          | true =>
            rw [if_pos hm] at p
            have hu : u = "mix" := eq_of_beq hm
            have h2 : getS shapes "mix" = some 2 := by decide +kernel
            rw [hu, h2] at hg
            cases hg
            obtain ⟨x, rfl⟩ : ∃ x, r = [x] := by
              match r, hn with
              | [x], _ => exact ⟨x, rfl⟩
              | [], h => simp at h
              | _ :: _ :: _, h => simp at h; omega
            refine iff' rfl ?_
            refine re_andV ?_
            repeat contradiction
            obtain ⟨⟨t, ht⟩, _⟩ := hks x (.tail _ (.head _))
            cases x with
            | raw v => cases ht
            | tup m =>
              cases ht
              cases m with
              | nil => (repeat contradiction); exact p
              | cons y m => (repeat contradiction); rw [decide_eq_true (show (0 : Int) < (((y :: m).length : Nat) : Int) by rw [List.length_cons]; omega)]; exact p
            | _ => cases ht; (repeat contradiction); exact p

/-! ### parts_of -/
def partsD : D → Option (List D)
  | .tup (.str h :: r) => if (h == "letter") = true then some [] else if (h == "mix") = true then (match r with | .tup m :: _ => some m | _ => none) else some r
  | _ => none
def spParts : Prm := fun xs O Pv => ∃ d l, xs = [.d d] ∧ partsD d = some l ∧ (∀ m, d = .tup m → m.length ≤ 1000) ∧ Pv (.d (.tup l)) O
theorem ok_parts {k : Nat} (X : Txt K mg base a) : FnOk P w K mg base CX0 (k + 1) a.f_parts_of a.d_parts_of ["weave"] (spOf K (T a) spParts) := by
  refine X.F_parts_of.ok sc_parts_of ?_ fun A outer s H E hr => ⟨_, (pss_cons (ps_if (pt_cmpR (op_eqAK (K := K) rfl (Al.room_u hr)) (pe_ix (ix_seqK (K := K) rfl) (pv 0) pe_int (fun _ _ => rfl)) pe_str (nomark _)) (pss_one (ps_ret (pe_tup pa_nil))) pss_nil) (pss_cons (ps_if (pt_cmpR (op_eqAK (K := K) rfl (Al.room_u hr)) (pe_ix (ix_seqK (K := K) rfl) (pv 0) pe_int (fun _ _ => rfl)) pe_str (nomark _)) (pss_one (ps_ret (pe_ix (ix_seqK (K := K) rfl) (pv 0) pe_int (fun _ _ => rfl)))) pss_nil) (pss_one (ps_ret (pe_slice (sl_anyK (K := K) rfl) (pv 0) (po_some pe_int) po_none))))), ?_⟩
  · rintro xs O Pv ⟨d, l, rfl, _⟩
    rfl
  · rintro xs O Pv ⟨d, l, rfl, hd, hl, p⟩
    obtain ⟨h, r, rfl⟩ : ∃ h r, d = .tup (.str h :: r) := by
      unfold partsD at hd
      split at hd
      · exact ⟨_, _, rfl⟩
      · cases hd
    have hd : (if (h == "letter") = true then some [] else if (h == "mix") = true then (match r with | .tup m :: _ => some m | _ => none) else some r) = some l := hd
    repeat contradiction
    have e1 : eqD (.str h) (.str "letter") = (h == "letter") := rfl
    have e2 : eqD (.str h) (.str "mix") = (h == "mix") := rfl
    rw [e1]
    cases q1 : (h == "letter") with
    | true =>
      rw [if_pos q1] at hd
      cases hd
      refine ift rfl ?_
      refine rs_ret (re_tupD ?_)
      repeat contradiction
      exact ⟨rfl, p⟩
    | false =>
      rw [if_neg (by rw [q1]; exact Bool.false_ne_true)] at hd
      refine iff' rfl ?_
      repeat contradiction
      rw [e2]
      cases q2 : (h == "mix") with
      | true =>
        rw [if_pos q2] at hd
        obtain ⟨m, r', rfl⟩ : ∃ m r', r = .tup m :: r' := by
          split at hd
          · exact ⟨_, _, rfl⟩
          · cases hd
        cases hd
        refine ift rfl ?_
        repeat contradiction
        exact p
      | false =>
        rw [if_neg (by rw [q2]; exact Bool.false_ne_true)] at hd
        rw [← Option.some.inj hd] at p
        refine iff' rfl ?_
        refine rs_next (rs_ret (re_slT ?_))
        repeat contradiction
        refine ro_some ?_
        repeat contradiction
        refine ro_none ⟨_, rfl, ?_⟩
        have : Al.cutD (.str h :: r) (some 1) none = r := by
          unfold Al.cutD
          rw [show HT.sIx (D.str h :: r).length 0 (some 1) = min 1 (D.str h :: r).length from HT.sIx_nat _ 0 1, HT.sIx_none]
          rw [show min 1 (D.str h :: r).length = 1 by rw [List.length_cons]; omega]
          show List.take ((D.str h :: r).length - 1) r = r
          rw [List.length_cons, Nat.add_sub_cancel, List.take_length]
        rw [this]
        exact p
end K0
end
section
set_option Elab.async false
set_option linter.all false
set_option maxRecDepth 100000
set_option maxHeartbeats 2000000
namespace K0
open PySem PySem.Spec PyProof.Rows L2 Al
variable {P : Program} {w : World} {K : PySem.W.Frag} {mg : Str → Option Value} {base : Heap} {a : Ad}
local macro_rules
  | `(tactic| contradiction) => `(tactic| first
    | with_reducible refine rs_seq ?_ | with_reducible refine rs_if ?_ | with_reducible refine rs_ret ?_ | with_reducible refine rt_and ?_ | with_reducible refine rt_or ?_ | with_reducible refine rt_not ?_ | with_reducible refine rt_test ?_ | with_reducible refine rt_B ?_ | with_reducible refine rs_asg ?_ | with_reducible refine rs_par ?_
    | with_reducible refine re_cb ?_ | with_reducible refine re_op ?_ | with_reducible refine re_if ?_ | with_reducible refine re_un ?_ | with_reducible refine ra_cons ?_ | with_reducible refine ra_nil ?_ | with_reducible refine re_int ?_ | with_reducible refine re_str ?_ | with_reducible refine re_bl ?_ | with_reducible refine re_non ?_ | with_reducible refine re_ty ?_ 
    | refine re_var rfl (fun z => by cases z) ?_ | with_reducible refine rr_b ?_ | with_reducible refine rr_i ?_ | with_reducible refine ru_i ?_
    | with_reducible refine rc_isi rfl (by first | exact (show kitB _ _ = some true by decide +kernel) | exact (show kitB _ _ = some false by decide +kernel)) ?_
    | with_reducible refine rc_len rfl ?_ | with_reducible refine rr_ix rfl atI_0 ?_ | with_reducible refine rr_ix rfl atI_1 ?_
    | with_reducible refine rr_eqF rfl ?_ | with_reducible refine rr_neF rfl ?_ | with_reducible refine rr_addI ?_ | with_reducible refine rc_abs ?_ | with_reducible refine rc_int ?_ | with_reducible refine rc_min ?_
    | refine ⟨_, rfl, ?_⟩ | rw [if_pos rfl] | rw [if_neg Bool.false_ne_true] | with_reducible refine rs_next ?_ | (with_reducible refine ift ?_ ?_; focus (simp; done)) | (with_reducible refine iff' ?_ ?_; focus (simp; done)) | dsimp only)





theorem small5 {n : Nat} (h : n ≤ 100000) : n < sizeLine := Nat.lt_of_le_of_lt h (by decide)
/-! ### the law's letters -/
def lawL : List D → List (List D)
  | l => l.foldl (fun acc x => acc ++ acc.map (· ++ [x])) [[]]
theorem lawL_snoc (l : List D) (x : D) : lawL (l ++ [x]) = lawL l ++ (lawL l).map (· ++ [x]) := by
  unfold lawL
  rw [List.foldl_append]
  rfl
theorem lawL_len : ∀ (n : Nat) (l : List D), l.length = n → (lawL l).length = 2 ^ n ∧ ∀ m ∈ lawL l, m.length ≤ n
  | 0, l, h => by
    rw [List.eq_nil_of_length_eq_zero h]
    exact ⟨rfl, fun m hm => by rw [show m = [] by simpa [lawL] using hm]; exact Nat.le_refl _⟩
  | n + 1, l, h => by
    have hne : l ≠ [] := fun z => by rw [z] at h; cases h
    rw [← List.dropLast_concat_getLast hne, lawL_snoc]
    obtain ⟨h1, h2⟩ := lawL_len n l.dropLast (by rw [List.length_dropLast, h]; rfl)
    refine ⟨by rw [List.length_append, List.length_map, h1, Nat.pow_succ]; omega, fun m hm => ?_⟩
    rcases List.mem_append.mp hm with hm | hm
    · exact Nat.le_succ_of_le (h2 m hm)
    · obtain ⟨u, hu, rfl⟩ := List.mem_map.mp hm
      rw [List.length_append]
      exact Nat.succ_le_succ (h2 u hu)
def spLawLet : Prm := fun xs O Pv => ∃ l, xs = [.d (.tup l)] ∧ l.length ≤ 3 ∧ Pv (.d (.lst ((lawL l).map .tup))) O
theorem ok_lawlet {k : Nat} (X : Txt K mg base a) : FnOk P w K mg base CX0 (k + 1) a.f_law_letters a.d_law_letters ["scope"] (spOf K (T a) spLawLet) := by
  refine X.F_law_letters.ok sc_law_letters ?_ fun A outer s H E hr => ⟨_, (pss_cons (ps_set (i := 1) sc_law_letters.nd rfl (by first | exact .inl rfl | exact .inr rfl) (pe_lst (pa_cons (pe_tup pa_nil) pa_nil))) (pss_cons (ps_for PassesOwn.never rfl (Al.pi_seqK (K := K) rfl (pv 0)) (pg_name (i := 2) sc_law_letters.nd rfl (by first | exact .inl rfl | exact .inr rfl)) (pss_one (ps_set (i := 1) sc_law_letters.nd rfl (by first | exact .inl rfl | exact .inr rfl) (pe_op (op_addAK (K := K) rfl) (pv 1) (pe_lc (own := [("letter", 3)]) rfl sc_law_letters.nd (Al.pi_seqK (K := K) rfl (pv 1)) (blkOk_by (own := [("letter", 3)]) (N := ["scope", "found", "name", "letter"]) (sc := defScope s_law_letters) (by decide +kernel)) (fun _ _ _ _ _ => (pg_name (i := 3) sc_law_letters.nd rfl (by first | exact .inl rfl | exact .inr rfl))) (fun _ _ _ _ _ => pts_nil) (fun _ _ _ _ _ => (pe_op (op_addAK (K := K) rfl) (pv 3) (pe_tup (pa_cons (pv 2) pa_nil))))))))) (pss_one (ps_ret (pv 1))))), ?_⟩
  · rintro xs O Pv ⟨l, rfl, _⟩
    rfl
  · rintro xs O Pv ⟨l, rfl, hl, p⟩
    repeat contradiction
    refine re_lstD ?_
    repeat contradiction
    refine re_tupD ?_
    repeat contradiction
    refine ⟨rfl, ?_⟩
    repeat contradiction
    refine ⟨rfl, ?_⟩
    refine rs_seq (rs_for (ri_seq ?_))
    repeat contradiction
    refine ⟨_, _, rfl, rfl, fun i ρ' O' => O' = O ∧ ∃ y z, ρ' = [.d (.tup l), .d (.lst ((lawL (l.take i)).map .tup)), y, z], ⟨rfl, _, _, rfl⟩, ?_, ?_⟩
    · rintro ρ' O' ⟨rfl, y, z, rfl⟩
      rw [List.take_length]
      repeat contradiction
      exact p
    · rintro i dd ρ' O' ⟨rfl, y, z, rfl⟩ hi
      have hil : i < l.length := (List.getElem?_eq_some_iff.mp hi).1
      have ht : l.take (i + 1) = l.take i ++ [dd] := by rw [List.take_add_one, hi]; rfl
      obtain ⟨n1, n2⟩ := lawL_len i (l.take i) (by rw [List.length_take]; omega)
      have n3 : (lawL (l.take i)).length ≤ 8 := by
        rw [n1]
        have := Nat.pow_le_pow_right (show 0 < 2 by decide) (show i ≤ 3 by omega)
        simpa using this
      refine rg_name ?_
      repeat contradiction
      refine re_lc (gin_name (by decide)) (ri_seq ?_)
      repeat contradiction
      refine ⟨_, _, rfl, rfl, fun j acc O2 => O2 = O' ∧ acc = (((lawL (l.take i)).take j).map (· ++ [dd])).map .tup ∧ acc.length ≤ j, ⟨rfl, rfl, Nat.le_refl _⟩, small1000 (by rw [List.length_map]; omega), ?_, ?_⟩
      · rintro acc O2 ⟨rfl, rfl, _⟩
        rw [List.length_map, List.take_length]
        refine rr_addL (Nat.le_of_lt (small1000 (by simp only [List.length_map]; omega))) ?_
        refine ⟨rfl, .d dd, z, ?_⟩
        rw [ht, lawL_snoc, List.map_append]
        rfl
      · rintro j d2 acc O2 ⟨rfl, rfl, hj⟩ hi2
        obtain ⟨m, hm, rfl⟩ := Option.map_eq_some_iff.mp (by simpa using hi2)
        have hml := n2 m (List.mem_of_getElem? hm)
        refine rg_name (rt_yes ?_)
        repeat contradiction
        refine re_tupD ?_
        repeat contradiction
        refine ⟨rfl, ?_⟩
        refine rr_addT (Nat.le_of_lt (small1000 (by simp only [List.length_cons, List.length_nil]; omega))) ?_
        refine ⟨_, rfl, hj, rfl, ?_, by rw [List.length_append]; exact Nat.succ_le_succ hj⟩
        rw [List.take_add_one, hm]
        simp

/-! ### the law's paths -/
mutual
def pathsD : D → List (List Nat)
  | .tup l => [] :: pathsL 0 l
  | _ => [[]]
def pathsL : Nat → List D → List (List Nat)
  | _, [] => []
  | i, x :: l => (pathsD x).map (i :: ·) ++ pathsL (i + 1) l
end
def pT (p : List Nat) : D := .tup (p.map fun i => .int (i : Nat))
/-- at most n steps down, all kinds known -/
def dn : Nat → D → Bool
  | 0, _ => false
  | n + 1, .tup l => l.all (dn n)
  | _ + 1, .raw _ => false
  | _ + 1, .scr _ => false
  | _ + 1, _ => true
theorem pathsL_snoc : ∀ (l : List D) (i : Nat) (x : D), pathsL i (l ++ [x]) = pathsL i l ++ (pathsD x).map ((i + l.length) :: ·)
  | [], i, x => by simp [pathsL]
  | y :: l, i, x => by
    rw [List.cons_append, pathsL, pathsL, pathsL_snoc l (i + 1) x, List.append_assoc]
    have : i + 1 + l.length = i + (y :: l).length := by simp only [List.length_cons]; omega
    rw [this]
theorem path_len : ∀ (n : Nat) (d : D), dn n d = true → ∀ p ∈ pathsD d, p.length ≤ n
  | 0, d, h, _, _ => by cases h
  | n + 1, .tup l, h, p, hp => by
    rw [pathsD] at hp
    rcases List.mem_cons.mp hp with rfl | hp
    · exact Nat.zero_le _
    · have h : l.all (dn n) = true := h
      have key : ∀ (l : List D) (i : Nat), l.all (dn n) = true → ∀ p ∈ pathsL i l, p.length ≤ n + 1 := by
        intro l
        induction l with
        | nil => intro i _ p hp; rw [pathsL] at hp; cases hp
        | cons x l ih =>
          intro i ha p hp
          rw [List.all_cons, Bool.and_eq_true] at ha
          rw [pathsL] at hp
          rcases List.mem_append.mp hp with hp | hp
          · obtain ⟨q, hq, rfl⟩ := List.mem_map.mp hp
            exact Nat.succ_le_succ (path_len n x ha.1 q hq)
          · exact ih (i + 1) ha.2 p hp
      exact key l 0 h p hp
  | n + 1, .non, h, p, hp => by rw [show p = [] by simpa [pathsD] using hp]; exact Nat.zero_le _
  | n + 1, .bl _, h, p, hp => by rw [show p = [] by simpa [pathsD] using hp]; exact Nat.zero_le _
  | n + 1, .int _, h, p, hp => by rw [show p = [] by simpa [pathsD] using hp]; exact Nat.zero_le _
  | n + 1, .str _, h, p, hp => by rw [show p = [] by simpa [pathsD] using hp]; exact Nat.zero_le _
  | n + 1, .lst _, h, p, hp => by rw [show p = [] by simpa [pathsD] using hp]; exact Nat.zero_le _
  | n + 1, .dic, h, p, hp => by rw [show p = [] by simpa [pathsD] using hp]; exact Nat.zero_le _
  | n + 1, .raw _, h, p, hp => by cases h
  | n + 1, .scr _, h, p, hp => by cases h
def spPaths (n : Nat) : Prm := fun xs O Pv => ∃ d, xs = [.d d] ∧ n ≤ 500 ∧ dn n d = true ∧ (pathsD d).length ≤ 100000 ∧ Pv (.d (.lst ((pathsD d).map pT))) O
theorem paths_part {l : List D} {i : Nat} {x : D} (h : l[i]? = some x) : (pathsD x).length + (pathsL 0 (l.take i)).length ≤ (pathsL 0 l).length := by
  have hl := (List.getElem?_eq_some_iff.mp h).1
  have e : l = l.take (i + 1) ++ l.drop (i + 1) := (List.take_append_drop _ _).symm
  have mono : ∀ (l m : List D) (i : Nat), (pathsL i l).length ≤ (pathsL i (l ++ m)).length := by
    intro l
    induction l with
    | nil => intro m i; rw [pathsL]; exact Nat.zero_le _
    | cons y l ih =>
      intro m i
      rw [List.cons_append, pathsL, pathsL, List.length_append, List.length_append]
      have := ih m (i + 1)
      omega
  have h1 := mono (l.take (i + 1)) (l.drop (i + 1)) 0
  rw [← e] at h1
  have ht : l.take (i + 1) = l.take i ++ [x] := by rw [List.take_add_one, h]; rfl
  rw [ht, pathsL_snoc, List.length_append, List.length_map] at h1
  omega
theorem fn_never {f : Addr} {fd : FuncData} {k : Nat} {ps : List Str} {T : List Addr} {S : Prm} (h : ∀ xs O P, ¬ S xs O P) : FnOk P w K mg base CX0 k f fd ps (spOf K T S) :=
  ⟨fun vs H Q E ⟨_, O, _, xs, Pv, _, _, hs, _⟩ => (h _ _ _ hs).elim, fun A outer s H args us vs Q E _ _ _ _ ⟨_, O, _, xs, Pv, _, _, hs, _⟩ => (h _ _ _ hs).elim⟩
end K0
end
section
set_option Elab.async false
set_option linter.all false
set_option maxRecDepth 100000
set_option maxHeartbeats 2000000
namespace K0
open PySem PySem.Spec PyProof.Rows L2 Al
variable {P : Program} {w : World} {K : PySem.W.Frag} {mg : Str → Option Value} {base : Heap} {a : Ad}
local macro_rules
  | `(tactic| contradiction) => `(tactic| first
    | with_reducible refine rs_seq ?_ | with_reducible refine rs_if ?_ | with_reducible refine rs_ret ?_ | with_reducible refine rt_and ?_ | with_reducible refine rt_or ?_ | with_reducible refine rt_not ?_ | with_reducible refine rt_test ?_ | with_reducible refine rt_B ?_ | with_reducible refine rs_asg ?_ | with_reducible refine rs_par ?_
    | with_reducible refine re_cb ?_ | with_reducible refine re_op ?_ | with_reducible refine re_if ?_ | with_reducible refine re_un ?_ | with_reducible refine ra_cons ?_ | with_reducible refine ra_nil ?_ | with_reducible refine re_int ?_ | with_reducible refine re_str ?_ | with_reducible refine re_bl ?_ | with_reducible refine re_non ?_ | with_reducible refine re_ty ?_ 
    | refine re_var rfl (fun z => by cases z) ?_ | with_reducible refine rr_b ?_ | with_reducible refine rr_i ?_ | with_reducible refine ru_i ?_
    | with_reducible refine rc_isi rfl (by first | exact (show kitB _ _ = some true by decide +kernel) | exact (show kitB _ _ = some false by decide +kernel)) ?_
    | with_reducible refine rc_len rfl ?_ | with_reducible refine rr_ix rfl atI_0 ?_ | with_reducible refine rr_ix rfl atI_1 ?_
    | with_reducible refine rr_eqF rfl ?_ | with_reducible refine rr_neF rfl ?_ | with_reducible refine rr_addI ?_ | with_reducible refine rc_abs ?_ | with_reducible refine rc_int ?_ | with_reducible refine rc_min ?_
    | refine ⟨_, rfl, ?_⟩ | rw [if_pos rfl] | rw [if_neg Bool.false_ne_true] | with_reducible refine rs_next ?_ | (with_reducible refine ift ?_ ?_; focus (simp; done)) | (with_reducible refine iff' ?_ ?_; focus (simp; done)) | dsimp only)






/-! ### a part of data -/
def partAt : D → List Nat → Option D
  | d, [] => some d
  | .tup l, i :: p => (l[i]?).bind fun x => partAt x p
  | _, _ :: _ => none
def spPart (n : Nat) : Prm := fun xs O Pv => ∃ d p x, xs = [.d d, .d (pT p)] ∧ p.length < n ∧ n ≤ 500 ∧ partAt d p = some x ∧ Pv (.d x) O
theorem cut_tail (x : D) (l : List D) : Al.cutD (x :: l) (some 1) none = l := by
  unfold Al.cutD
  rw [show HT.sIx (x :: l).length 0 (some 1) = min 1 (x :: l).length from HT.sIx_nat _ 0 1, HT.sIx_none]
  rw [show min 1 (x :: l).length = 1 by rw [List.length_cons]; omega]
  show List.take ((x :: l).length - 1) l = l
  rw [List.length_cons, Nat.add_sub_cancel, List.take_length]
def putAt : D → List Nat → D → Option D
  | _, [], x => some x
  | .tup l, i :: p, x => if l.length ≤ 100000 then (l[i]?).bind fun y => (putAt y p x).map fun z => .tup (l.take i ++ [z] ++ l.drop (i + 1)) else none
  | _, _ :: _, _ => none
theorem cut_to (l : List D) (i : Nat) (h : i ≤ l.length) : Al.cutD l none (some (i : Int)) = l.take i := by
  unfold Al.cutD
  rw [HT.sIx_none, HT.sIx_nat, Nat.min_eq_left h]
  rfl
theorem cut_from (l : List D) (i : Nat) (h : i ≤ l.length) : Al.cutD l (some (i : Int)) none = l.drop i := by
  unfold Al.cutD
  rw [HT.sIx_none, HT.sIx_nat, Nat.min_eq_left h]
  exact List.take_of_length_le (by rw [List.length_drop]; omega)
def spPut (n : Nat) : Prm := fun xs O Pv => ∃ d p x y, xs = [.d d, .d (pT p), .d x] ∧ p.length < n ∧ n ≤ 500 ∧ putAt d p x = some y ∧ Pv (.d y) O
/-! ### the law's inner -/
def innerD : D → Option (List D)
  | .tup (.str h :: r) => if (h == "mix") = true then (match r with | .tup m :: _ => some m | _ => none) else if (h == "none" || h == "letter") = true then some [] else some r
  | _ => none
theorem inner_eq (h : Str) (r : List D) : innerD (.tup (.str h :: r)) = if (h == "mix") = true then (match r with | .tup m :: _ => some m | _ => none) else if (h == "none" || h == "letter") = true then some [] else some r := rfl
def spInner : Prm := fun xs O Pv => ∃ d l, xs = [.d d] ∧ innerD d = some l ∧ Pv (.d (.lst l)) O
theorem ok_inner {k : Nat} (X : Txt K mg base a) : FnOk P w K mg base CX0 (k + 1) a.f_law_inner a.d_law_inner ["weave"] (spOf K (T a) spInner) := by
  refine X.F_law_inner.ok sc_law_inner ?_ fun A outer s H E hr => ⟨_, (pss_cons (ps_if (pt_cmpR (op_eqAK (K := K) rfl (Al.room_u hr)) (pe_ix (ix_seqK (K := K) rfl) (pv 0) pe_int (fun _ _ => rfl)) pe_str (nomark _)) (pss_one (ps_ret (pe_callTy (call_listK (K := K) rfl) (by rfl) X.m_list (by decide +kernel) (pa_cons (pe_ix (ix_seqK (K := K) rfl) (pv 0) pe_int (fun _ _ => rfl)) pa_nil)))) pss_nil) (pss_one (ps_ret (pe_ifExp (pt_cmpR (op_inK (K := K) rfl) (pe_ix (ix_seqK (K := K) rfl) (pv 0) pe_int (fun _ _ => rfl)) (pe_lst (pa_cons pe_str (pa_cons pe_str pa_nil))) (by rfl)) (pe_lst pa_nil) (pe_callTy (call_listK (K := K) rfl) (by rfl) X.m_list (by decide +kernel) (pa_cons (pe_slice (sl_anyK (K := K) rfl) (pv 0) (po_some pe_int) po_none) pa_nil)))))), ?_⟩
  · rintro xs O Pv ⟨d, l, rfl, _⟩
    rfl
  · rintro xs O Pv ⟨d, l, rfl, hd, p⟩
    obtain ⟨h, r, rfl⟩ : ∃ h r, d = .tup (.str h :: r) := by
      unfold innerD at hd
      split at hd
      · exact ⟨_, _, rfl⟩
      · cases hd
    rw [inner_eq] at hd
    have e2 : eqD (.str h) (.str "mix") = (h == "mix") := rfl
    repeat contradiction
    rw [e2]
    cases q2 : (h == "mix") with
    | true =>
      rw [if_pos q2] at hd
      obtain ⟨m, r', rfl⟩ : ∃ m r', r = .tup m :: r' := by
        split at hd
        · exact ⟨_, _, rfl⟩
        · cases hd
      cases hd
      refine ift rfl ?_
      repeat contradiction
      refine rc_list rfl ?_
      exact p
    | false =>
      rw [if_neg (by rw [q2]; exact Bool.false_ne_true)] at hd
      refine iff' rfl ?_
      repeat contradiction
      refine re_lstD ?_
      repeat contradiction
      refine ⟨rfl, ?_⟩
      refine rr_in (l := txts ["none", "letter"]) rfl rfl (by decide) ?_
      rw [in_txts]
      refine ⟨_, rfl, ?_⟩
      have ec : (["none", "letter"] : List Str).contains h = (h == "none" || h == "letter") := by
        rw [List.contains_cons, List.contains_cons]
        simp
      cases q3 : (h == "none" || h == "letter") with
      | true =>
        rw [if_pos q3] at hd
        cases hd
        refine ift (by rw [if_neg Bool.false_ne_true, ec, q3]) ?_
        refine re_lstD ?_
        repeat contradiction
        exact ⟨rfl, p⟩
      | false =>
        rw [if_neg (by rw [q3]; exact Bool.false_ne_true)] at hd
        rw [← Option.some.inj hd] at p
        refine iff' (by rw [if_neg Bool.false_ne_true, ec, q3]) ?_
        repeat contradiction
        refine re_slT ?_
        repeat contradiction
        refine ro_some ?_
        repeat contradiction
        refine ro_none ⟨_, rfl, ?_⟩
        rw [cut_tail]
        repeat contradiction
        refine rc_list rfl ?_
        exact p
end K0
end
section
set_option Elab.async false
set_option linter.all false
set_option maxRecDepth 100000
set_option maxHeartbeats 2000000
namespace K0
open PySem PySem.Spec PyProof.Rows L2 Al
/-! ### weaves as data -/
/-- data without what is not known, at most n deep, not too long -/
def cl : Nat → D → Bool
  | _, .non => true
  | _, .bl _ => true
  | _, .int _ => true
  | _, .str x => PyData.strOk x && decide (x.length ≤ 100000)
  | _, .dic => true
  | n + 1, .lst l => decide (l.length ≤ 100000) && l.all (cl n)
  | n + 1, .tup l => decide (l.length ≤ 100000) && l.all (cl n)
  | _, _ => false
theorem cl_ty {n : Nat} {d : D} (h : cl n d = true) : ∃ t, tyD d = some t := by
  cases d <;> first | exact ⟨_, rfl⟩ | (cases n <;> simp [cl] at h)
theorem cl_tup {n : Nat} {l : List D} (h : cl n (.tup l) = true) : ∃ m, n = m + 1 ∧ l.length ≤ 100000 ∧ ∀ x ∈ l, cl m x = true := by
  cases n with
  | zero => simp [cl] at h
  | succ m =>
    rw [cl, Bool.and_eq_true, decide_eq_true_eq] at h
    exact ⟨m, rfl, h.1, List.all_eq_true.mp h.2⟩
theorem cl_kinds {n : Nat} {d : D} (h : cl n d = true) : kinds d := ⟨cl_ty h, fun l e x hx => by
  subst e
  obtain ⟨m, rfl, _, hm⟩ := cl_tup h
  exact cl_ty (hm x hx)⟩
theorem cl_kinds2 {n : Nat} {d : D} (h : cl n d = true) : kinds2 d := ⟨cl_ty h, fun l e x hx => by
  subst e
  obtain ⟨m, rfl, _, hm⟩ := cl_tup h
  exact cl_kinds (hm x hx)⟩
theorem cl_mono : ∀ {n m : Nat} {d : D}, cl n d = true → n ≤ m → cl m d = true
  | 0, m, .non, _, _ => by cases m <;> rfl
  | 0, m, .bl _, _, _ => by cases m <;> rfl
  | 0, m, .int _, _, _ => by cases m <;> rfl
  | 0, m, .str _, h, _ => by cases m <;> exact h
  | 0, m, .dic, _, _ => by cases m <;> rfl
  | 0, m, .lst _, h, _ => by simp [cl] at h
  | 0, m, .tup _, h, _ => by simp [cl] at h
  | 0, m, .raw _, h, _ => by simp [cl] at h
  | 0, m, .scr _, h, _ => by simp [cl] at h
  | n + 1, m, .non, _, _ => by cases m <;> rfl
  | n + 1, m, .bl _, _, _ => by cases m <;> rfl
  | n + 1, m, .int _, _, _ => by cases m <;> rfl
  | n + 1, m, .str _, h, _ => by cases m <;> exact h
  | n + 1, m, .dic, _, _ => by cases m <;> rfl
  | n + 1, m, .raw _, h, _ => by simp [cl] at h
  | n + 1, m, .scr _, h, _ => by simp [cl] at h
  | n + 1, 0, .lst _, _, q => absurd q (by omega)
  | n + 1, 0, .tup _, _, q => absurd q (by omega)
  | n + 1, m + 1, .lst l, h, q => by
    rw [cl, Bool.and_eq_true, List.all_eq_true] at h ⊢
    exact ⟨h.1, fun x hx => cl_mono (h.2 x hx) (by omega)⟩
  | n + 1, m + 1, .tup l, h, q => by
    rw [cl, Bool.and_eq_true, List.all_eq_true] at h ⊢
    exact ⟨h.1, fun x hx => cl_mono (h.2 x hx) (by omega)⟩
def ascIf : D → Bool
  | .tup (.str h :: .tup m :: _) => if (h == "mix") = true then decide (ascD m = some true) else true
  | _ => true
/-- weaves, at most n deep -/
def wvD (sc : List Str) : Nat → D → Bool
  | 0, _ => false
  | n + 1, d => knotD sc d && (((partsD d).getD []).all (wvD sc n) && ascIf d)
/-- nodes, as far as n deep -/
def cnt : Nat → D → Nat
  | 0, _ => 0
  | n + 1, d => 1 + (((partsD d).getD []).map (cnt n)).sum
theorem knot_inv {sc : List Str} {d : D} (h : knotD sc d = true) : ∃ u r, d = .tup (.str u :: r) ∧
    ((u = "none" ∧ r = []) ∨ (u = "letter" ∧ ∃ l, r = [.tup l] ∧ letterD sc (.tup l) = true) ∨ (u = "mix" ∧ ∃ m, r = [.tup m] ∧ m ≠ []) ∨ (u = "then" ∧ ∃ e f, r = [e, f]) ∨ (u = "on" ∧ ∃ e, r = [e]) ∨ (u = "back" ∧ ∃ e, r = [e])) := by
  obtain ⟨u, r, rfl⟩ : ∃ u r, d = .tup (.str u :: r) := by
    unfold knotD at h
    split at h
    · exact ⟨_, _, rfl⟩
    · cases h
  have h : (match getS shapes u with | some n => ((((r.length + 1 : Nat) : Int) == n) && restOk sc u r) | none => false) = true := h
  · refine ⟨u, r, rfl, ?_⟩
    cases hg : getS shapes u with
    | none => rw [hg] at h; cases h
    | some n =>
      rw [hg] at h
      dsimp only at h
      rw [Bool.and_eq_true, beq_iff_eq] at h
      obtain ⟨hn, hr⟩ := h
      unfold getS shapes at hg
      rw [List.find?_cons] at hg
      by_cases e1 : u = "none"
      · subst e1
        have : n = 1 := by simpa using hg.symm
        refine .inl ⟨rfl, ?_⟩
        cases r with
        | nil => rfl
        | cons x r => simp at hn; omega
      · rw [show (("none" : Str) == u) = false by rw [beq_eq_false_iff_ne]; exact fun z => e1 z.symm] at hg
        dsimp only at hg
        rw [List.find?_cons] at hg
        by_cases e2 : u = "letter"
        · subst e2
          have : n = 2 := by simpa using hg.symm
          refine .inr (.inl ⟨rfl, ?_⟩)
          match r, hn, hr with
          | [x], _, hr =>
            have hr : letterD sc x = true := hr
            cases x with
            | tup l => exact ⟨l, rfl, hr⟩
            | _ => cases hr
          | [], hn, _ => simp at hn; omega
          | _ :: _ :: _, hn, _ => simp at hn; omega
        · rw [show (("letter" : Str) == u) = false by rw [beq_eq_false_iff_ne]; exact fun z => e2 z.symm] at hg
          dsimp only at hg
          rw [List.find?_cons] at hg
          by_cases e3 : u = "then"
          · subst e3
            have : n = 3 := by simpa using hg.symm
            refine .inr (.inr (.inr (.inl ⟨rfl, ?_⟩)))
            match r, hn with
            | [x, y], _ => exact ⟨x, y, rfl⟩
            | [], hn => simp at hn; omega
            | [_], hn => simp at hn; omega
            | _ :: _ :: _ :: _, hn => simp at hn; omega
          · rw [show (("then" : Str) == u) = false by rw [beq_eq_false_iff_ne]; exact fun z => e3 z.symm] at hg
            dsimp only at hg
            rw [List.find?_cons] at hg
            by_cases e4 : u = "on"
            · subst e4
              have : n = 2 := by simpa using hg.symm
              refine .inr (.inr (.inr (.inr (.inl ⟨rfl, ?_⟩))))
              match r, hn with
              | [x], _ => exact ⟨x, rfl⟩
              | [], hn => simp at hn; omega
              | _ :: _ :: _, hn => simp at hn; omega
            · rw [show (("on" : Str) == u) = false by rw [beq_eq_false_iff_ne]; exact fun z => e4 z.symm] at hg
              dsimp only at hg
              rw [List.find?_cons] at hg
              by_cases e5 : u = "back"
              · subst e5
                have : n = 2 := by simpa using hg.symm
                refine .inr (.inr (.inr (.inr (.inr ⟨rfl, ?_⟩))))
                match r, hn with
                | [x], _ => exact ⟨x, rfl⟩
                | [], hn => simp at hn; omega
                | _ :: _ :: _, hn => simp at hn; omega
              · rw [show (("back" : Str) == u) = false by rw [beq_eq_false_iff_ne]; exact fun z => e5 z.symm] at hg
                dsimp only at hg
                rw [List.find?_cons] at hg
                by_cases e6 : u = "mix"
                · subst e6
                  have : n = 2 := by simpa using hg.symm
                  refine .inr (.inr (.inl ⟨rfl, ?_⟩))
                  match r, hn, hr with
                  | [x], _, hr =>
                    cases x with
                    | tup l =>
                      have hr : (!l.isEmpty) = true := hr
                      exact ⟨l, rfl, by intro z; rw [z] at hr; cases hr⟩
                    | _ => cases hr
                  | [], hn, _ => simp at hn; omega
                  | _ :: _ :: _, hn, _ => simp at hn; omega
                · rw [show (("mix" : Str) == u) = false by rw [beq_eq_false_iff_ne]; exact fun z => e6 z.symm] at hg
                  simp at hg
theorem parts_none : partsD (.tup [.str "none"]) = some [] := rfl
theorem parts_letter (x : D) : partsD (.tup [.str "letter", x]) = some [] := rfl
theorem parts_mix (m : List D) : partsD (.tup [.str "mix", .tup m]) = some m := rfl
theorem parts_then (e f : D) : partsD (.tup [.str "then", e, f]) = some [e, f] := rfl
theorem parts_on (e : D) : partsD (.tup [.str "on", e]) = some [e] := rfl
theorem parts_back (e : D) : partsD (.tup [.str "back", e]) = some [e] := rfl
theorem parts_some {sc : List Str} {d : D} (h : knotD sc d = true) : ∃ l, partsD d = some l := by
  obtain ⟨u, r, rfl, q⟩ := knot_inv h
  rcases q with ⟨rfl, rfl⟩ | ⟨rfl, l, rfl, _⟩ | ⟨rfl, m, rfl, _⟩ | ⟨rfl, e, f, rfl⟩ | ⟨rfl, e, rfl⟩ | ⟨rfl, e, rfl⟩ <;> exact ⟨_, rfl⟩
theorem ltDs_tot : ∀ (l m : List D), (∀ x ∈ l, ∀ y ∈ m, ∃ b, ltD x y = some b) → ∃ b, ltDs l m = some b
  | [], [], _ => ⟨_, by rw [ltDs]⟩
  | [], _ :: _, _ => ⟨_, by rw [ltDs]⟩
  | _ :: _, [], _ => ⟨_, by rw [ltDs]⟩
  | x :: l, y :: m, h => by
    rw [ltDs]
    by_cases q : eqD x y = true
    · rw [if_pos q]
      exact ltDs_tot l m fun a ha b hb => h a (List.mem_cons_of_mem _ ha) b (List.mem_cons_of_mem _ hb)
    · rw [if_neg q]
      exact h x List.mem_cons_self y List.mem_cons_self
theorem lt_tup (l m : List D) : ltD (.tup l) (.tup m) = ltDs l m := by rw [ltD]
theorem lt_strs {l m : List D} (hl : ∀ x ∈ l, ∃ u, x = D.str u) (hm : ∀ x ∈ m, ∃ u, x = D.str u) : ∃ b, ltDs l m = some b := ltDs_tot l m fun x hx y hy => by
  obtain ⟨u, rfl⟩ := hl x hx
  obtain ⟨v, rfl⟩ := hm y hy
  exact ⟨_, by rw [ltD]⟩
theorem letter_strs {sc : List Str} {l : List D} (h : letterD sc (.tup l) = true) : ∀ x ∈ l, ∃ u, x = D.str u := fun x hx => by
  rw [letter_tup, Bool.and_eq_true, Bool.and_eq_true] at h
  obtain ⟨u, e, _⟩ := inSc_str (List.all_eq_true.mp h.1.2 x hx)
  exact ⟨u, e⟩
theorem ltDs_head {u v : Str} {r s : List D} (h : u = v → ∃ b, ltDs r s = some b) : ∃ b, ltD (.tup (.str u :: r)) (.tup (.str v :: s)) = some b := by
  rw [lt_tup, ltDs]
  by_cases q : eqD (.str u) (.str v) = true
  · rw [if_pos q]
    exact h (eq_of_beq q)
  · rw [if_neg q]
    exact ⟨_, by rw [ltD]⟩
theorem wv_lt {sc : List Str} : ∀ (n k : Nat) (x y : D), wvD sc n x = true → wvD sc k y = true → ∃ b, ltD x y = some b
  | 0, _, _, _, h, _ => by cases h
  | _, 0, _, _, _, h => by cases h
  | n + 1, k + 1, x, y, hx, hy => by
    rw [wvD, Bool.and_eq_true, Bool.and_eq_true] at hx hy
    obtain ⟨hx1, hx2, _⟩ := hx
    obtain ⟨hy1, hy2, _⟩ := hy
    obtain ⟨u, r, rfl, qx⟩ := knot_inv hx1
    obtain ⟨v, s, rfl, qy⟩ := knot_inv hy1
    refine ltDs_head fun e => ?_
    subst e
    have ih : ∀ {a b : List D}, (a.all (wvD sc n)) = true → (b.all (wvD sc k)) = true → ∃ c, ltDs a b = some c := fun ha hb => ltDs_tot _ _ fun x hx y hy => wv_lt n k x y (List.all_eq_true.mp ha x hx) (List.all_eq_true.mp hb y hy)
    rcases qx with ⟨rfl, rfl⟩ | ⟨rfl, l, rfl, q1⟩ | ⟨rfl, m, rfl, _⟩ | ⟨rfl, e, f, rfl⟩ | ⟨rfl, e, rfl⟩ | ⟨rfl, e, rfl⟩ <;> rcases qy with ⟨z, rfl⟩ | ⟨z, l', rfl, q2⟩ | ⟨z, m', rfl, _⟩ | ⟨z, e', f', rfl⟩ | ⟨z, e', rfl⟩ | ⟨z, e', rfl⟩
    all_goals first
      | (exfalso; revert z; decide +kernel)
      | (exact ⟨_, by rw [ltDs]⟩)
      | (refine ltDs_tot _ _ fun x hx y hy => ?_
         rw [List.mem_singleton.mp hx, List.mem_singleton.mp hy, lt_tup]
         exact lt_strs (letter_strs q1) (letter_strs q2))
      | (refine ltDs_tot _ _ fun x hx y hy => ?_
         rw [List.mem_singleton.mp hx, List.mem_singleton.mp hy, lt_tup]
         exact ih hx2 hy2)
      | exact ih hx2 hy2
theorem asc_tot : ∀ (l : List D), (∀ x ∈ l, ∀ y ∈ l, ∃ b, ltD x y = some b) → ∃ b, ascD l = some b
  | [], _ => ⟨_, rfl⟩
  | [x], _ => ⟨_, rfl⟩
  | x :: y :: r, h => by
    rw [ascD]
    obtain ⟨b, hb⟩ := h x List.mem_cons_self y (List.mem_cons_of_mem _ List.mem_cons_self)
    rw [hb]
    cases b with
    | true => exact asc_tot (y :: r) fun a ha c hc => h a (List.mem_cons_of_mem _ ha) c (List.mem_cons_of_mem _ hc)
    | false => exact ⟨_, rfl⟩
theorem wv_asc {sc : List Str} {n : Nat} {l : List D} (h : ∀ x ∈ l, wvD sc n x = true) : ∃ b, ascD l = some b := asc_tot l fun x hx y hy => wv_lt n n x y (h x hx) (h y hy)
end K0
end
section
set_option Elab.async false
set_option linter.all false
set_option maxRecDepth 100000
set_option maxHeartbeats 2000000
namespace K0
open PySem PySem.Spec PyProof.Rows L2 Al
variable {P : Program} {w : World} {K : PySem.W.Frag} {mg : Str → Option Value} {base : Heap} {a : Ad}
local macro_rules
  | `(tactic| contradiction) => `(tactic| first
    | with_reducible refine rs_seq ?_ | with_reducible refine rs_if ?_ | with_reducible refine rs_ret ?_ | with_reducible refine rt_and ?_ | with_reducible refine rt_or ?_ | with_reducible refine rt_not ?_ | with_reducible refine rt_test ?_ | with_reducible refine rt_B ?_ | with_reducible refine rs_asg ?_ | with_reducible refine rs_par ?_
    | with_reducible refine re_cb ?_ | with_reducible refine re_op ?_ | with_reducible refine re_if ?_ | with_reducible refine re_un ?_ | with_reducible refine ra_cons ?_ | with_reducible refine ra_nil ?_ | with_reducible refine re_int ?_ | with_reducible refine re_str ?_ | with_reducible refine re_bl ?_ | with_reducible refine re_non ?_ | with_reducible refine re_ty ?_ 
    | refine re_var rfl (fun z => by cases z) ?_ | with_reducible refine rr_b ?_ | with_reducible refine rr_i ?_ | with_reducible refine ru_i ?_
    | with_reducible refine rc_isi rfl (by first | exact (show kitB _ _ = some true by decide +kernel) | exact (show kitB _ _ = some false by decide +kernel)) ?_
    | with_reducible refine rc_len rfl ?_ | with_reducible refine rr_ix rfl atI_0 ?_ | with_reducible refine rr_ix rfl atI_1 ?_
    | with_reducible refine rr_eqF rfl ?_ | with_reducible refine rr_neF rfl ?_ | with_reducible refine rr_addI ?_ | with_reducible refine rc_abs ?_ | with_reducible refine rc_int ?_ | with_reducible refine rc_min ?_
    | refine ⟨_, rfl, ?_⟩ | rw [if_pos rfl] | rw [if_neg Bool.false_ne_true] | with_reducible refine rs_next ?_ | (with_reducible refine ift ?_ ?_; focus (simp; done)) | (with_reducible refine iff' ?_ ?_; focus (simp; done)) | dsimp only)



theorem plain_mono : ∀ {n m : Nat} {d : D}, plain n d = true → n ≤ m → plain m d = true
  | 0, m, .non, _, _ => by cases m <;> rfl
  | 0, m, .bl _, _, _ => by cases m <;> rfl
  | 0, m, .int _, _, _ => by cases m <;> rfl
  | 0, m, .str _, h, _ => by cases m <;> (rw [Al.plain] at h ⊢; exact h)
  | 0, m, .dic, h, _ => by simp [Al.plain] at h
  | 0, m, .lst _, h, _ => by simp [Al.plain] at h
  | 0, m, .tup _, h, _ => by simp [Al.plain] at h
  | 0, m, .raw _, h, _ => by simp [Al.plain] at h
  | 0, m, .scr _, h, _ => by simp [Al.plain] at h
  | n + 1, m, .non, _, _ => by cases m <;> rfl
  | n + 1, m, .bl _, _, _ => by cases m <;> rfl
  | n + 1, m, .int _, _, _ => by cases m <;> rfl
  | n + 1, m, .str _, h, _ => by cases m <;> (rw [Al.plain] at h ⊢; exact h)
  | n + 1, m, .dic, h, _ => by simp [Al.plain] at h
  | n + 1, m, .raw _, h, _ => by simp [Al.plain] at h
  | n + 1, m, .scr _, h, _ => by simp [Al.plain] at h
  | n + 1, 0, .lst _, _, q => absurd q (by omega)
  | n + 1, 0, .tup _, _, q => absurd q (by omega)
  | n + 1, m + 1, .lst l, h, q => by
    rw [Al.plain] at h ⊢
    have key : ∀ l : List D, plainL n l = true → plainL m l = true := by
      intro l
      induction l with
      | nil => intro _; rw [plainL]
      | cons x l ih =>
        intro h
        rw [plainL, Bool.and_eq_true] at h ⊢
        exact ⟨plain_mono h.1 (by omega), ih h.2⟩
    exact key l h
  | n + 1, m + 1, .tup l, h, q => by
    rw [Al.plain] at h ⊢
    have key : ∀ l : List D, plainL n l = true → plainL m l = true := by
      intro l
      induction l with
      | nil => intro _; rw [plainL]
      | cons x l ih =>
        intro h
        rw [plainL, Bool.and_eq_true] at h ⊢
        exact ⟨plain_mono h.1 (by omega), ih h.2⟩
    exact key l h
theorem plainL_of : ∀ {n : Nat} {l : List D}, (∀ x ∈ l, plain n x = true) → plainL n l = true
  | n, [], _ => by rw [plainL]
  | n, x :: l, h => by
    rw [plainL, Bool.and_eq_true]
    exact ⟨h x List.mem_cons_self, plainL_of fun y hy => h y (List.mem_cons_of_mem _ hy)⟩
theorem plain_str {n : Nat} {u : Str} (h : cl n (.str u) = true) (m : Nat) : plain m (.str u) = true := by
  have : PyData.strOk u = true := by
    cases n <;> (rw [cl, Bool.and_eq_true] at h; exact h.1)
  cases m <;> (rw [Al.plain]; exact this)
theorem wv_plain {sc : List Str} : ∀ (n c : Nat) (d : D), wvD sc n d = true → cl c d = true → plain c d = true
  | 0, _, _, h, _ => by cases h
  | n + 1, c, d, h, hc => by
    rw [wvD, Bool.and_eq_true, Bool.and_eq_true] at h
    obtain ⟨h1, h2, _⟩ := h
    obtain ⟨u, r, rfl, q⟩ := knot_inv h1
    obtain ⟨c, rfl, _, hm⟩ := cl_tup hc
    rw [Al.plain, plainL, Bool.and_eq_true]
    refine ⟨plain_str (hm _ List.mem_cons_self) c, plainL_of fun x hx => ?_⟩
    have hx2 := hm x (List.mem_cons_of_mem _ hx)
    have ih : ∀ {a : List D}, a.all (wvD sc n) = true → ∀ x ∈ a, ∀ c, cl c x = true → plain c x = true := fun ha x hx c hc => wv_plain n c x (List.all_eq_true.mp ha x hx) hc
    rcases q with ⟨rfl, rfl⟩ | ⟨rfl, l, rfl, q1⟩ | ⟨rfl, m, rfl, _⟩ | ⟨rfl, e, f, rfl⟩ | ⟨rfl, e, rfl⟩ | ⟨rfl, e, rfl⟩
    · cases hx
    · rw [List.mem_singleton.mp hx] at hx2 ⊢
      obtain ⟨c2, rfl, _, hl⟩ := cl_tup hx2
      rw [Al.plain]
      refine plainL_of fun y hy => ?_
      obtain ⟨v, rfl⟩ := letter_strs q1 y hy
      exact plain_str (hl _ hy) _
    · rw [List.mem_singleton.mp hx] at hx2 ⊢
      obtain ⟨c2, rfl, _, hl⟩ := cl_tup hx2
      rw [Al.plain]
      exact plainL_of fun y hy => ih h2 y hy c2 (hl y hy)
    · exact ih h2 x hx c hx2
    · exact ih h2 x hx c hx2
    · exact ih h2 x hx c hx2

/-! ### nodes_at_most -/
def okW (sc : List Str) (n : Nat) (d : D) (m : Int) : Bool := wvD sc n d && decide ((cnt n d : Int) ≤ m)
def nodesV (sc : List Str) (n : Nat) (d : D) (m : Int) : Int := if okW sc n d m = true then (cnt n d : Int) else 0
def spNodes (N : Nat) : Prm := fun xs O Pv => ∃ sc d n m c, xs = [.d (.tup (txts sc)), .d d, .d (.int (n : Nat)), .d (.int m)] ∧ n < N ∧ N ≤ 100 ∧ sc.length ≤ 3 ∧ (∀ u ∈ sc, nameS u = true) ∧ cl c d = true ∧ c ≤ 64 ∧ Pv (.d (.int (nodesV sc n d m))) O
theorem parts_cl {c : Nat} {d : D} {l : List D} (h : cl c d = true) (hl : partsD d = some l) : ∀ x ∈ l, cl c x = true := by
  unfold partsD at hl
  split at hl
  case h_2 => cases hl
  case h_1 u r =>
    obtain ⟨c, rfl, _, hm⟩ := cl_tup h
    intro x hx
    split at hl
    · cases hl; cases hx
    · split at hl
      · split at hl
        · cases hl
          obtain ⟨c, rfl, _, hm⟩ := cl_tup (hm _ (.tail _ (.head _)))
          exact cl_mono (hm x hx) (by omega)
        · cases hl
      · cases hl
        exact cl_mono (hm x (List.mem_cons_of_mem _ hx)) (by omega)
theorem ok_nodes {k : Nat} (X : Txt K mg base a) (hS : KInts K w a.o_SHAPES shapes) : ∀ N : Nat, FnOk P w K mg base CX0 (k + 12 + N) a.f_nodes_at_most a.d_nodes_at_most ["scope", "thing", "deep", "most"] (spOf K (T a) (spNodes N))
  | 0 => fn_never fun xs O Pv ⟨sc, d, n, m, c, _, h, _⟩ => absurd h (Nat.not_lt_zero _)
  | N + 1 => by
    have G_nodes_at_most := ok_nodes (k := k) X hS N
    have G_is_knot := ok_knot (P := P) (w := w) (k := k) X hS
    have G_parts_of := ok_parts (P := P) (w := w) (k := k) X
    have G_is_ascending := ok_asc (P := P) (w := w) (k := k) X
    refine FunT.ok (k := k + 12 + N) X.F_nodes_at_most sc_nodes_at_most ?_ fun A outer s H E hr => ⟨_, (pss_cons (ps_if (PW.pt (pw_or (pt_cmpR op_lt (pv 2) pe_int (nomark _)) (pw_or (pt_cmpR op_lt (pv 3) pe_int (nomark _)) (pw_or1 (pt_not (pt_val (pe_call (G_is_knot) (hr.mono (by omega)) (by rfl) X.g_is_knot X.F_is_knot.kp X.b_is_knot .nil pass0 (pa_cons (pv 0) (pa_cons (pv 1) pa_nil))))))))) (pss_one (ps_ret pe_int)) pss_nil) (pss_cons (ps_set (i := 4) sc_nodes_at_most.nd rfl (by first | exact .inl rfl | exact .inr rfl) pe_int) (pss_cons (ps_for PassesOwn.never rfl (Al.pi_seqK (K := K) rfl (pe_call (G_parts_of) (hr.mono (by omega)) (by rfl) X.g_parts_of X.F_parts_of.kp X.b_parts_of .nil pass0 (pa_cons (pv 1) pa_nil))) (pg_name (i := 5) sc_nodes_at_most.nd rfl (by first | exact .inl rfl | exact .inr rfl)) (pss_cons (ps_set (i := 6) sc_nodes_at_most.nd rfl (by first | exact .inl rfl | exact .inr rfl) (pe_call (G_nodes_at_most) (hr.mono (by omega)) (by rfl) X.g_nodes_at_most X.F_nodes_at_most.kp X.b_nodes_at_most .nil pass0 (pa_cons (pv 0) (pa_cons (pv 5) (pa_cons (pe_op op_sub (pv 2) pe_int) (pa_cons (pe_op op_sub (pv 3) (pv 4)) pa_nil)))))) (pss_cons (ps_if (pt_cmpR (op_eqAK (K := K) rfl (Al.room_u hr)) (pv 6) pe_int (nomark _)) (pss_one (ps_ret pe_int)) pss_nil) (pss_one (ps_set (i := 4) sc_nodes_at_most.nd rfl (by first | exact .inl rfl | exact .inr rfl) (pe_op (op_addAK (K := K) rfl) (pv 4) (pv 6))))))) (pss_cons (ps_if (PW.pt (pw_and (pt_cmpR (op_eqAK (K := K) rfl (Al.room_u hr)) (pe_ix (ix_seqK (K := K) rfl) (pv 1) pe_int (fun _ _ => rfl)) pe_str (nomark _)) (pw_and1 (pt_not (pt_val (pe_call (G_is_ascending) (hr.mono (by omega)) (by rfl) X.g_is_ascending X.F_is_ascending.kp X.b_is_ascending .nil pass0 (pa_cons (pe_ix (ix_seqK (K := K) rfl) (pv 1) pe_int (fun _ _ => rfl)) pa_nil))))))) (pss_one (ps_ret pe_int)) pss_nil) (pss_one (ps_ret (pv 4))))))), ?_⟩
    · rintro xs O Pv ⟨sc, d, n, m, c, rfl, _⟩
      rfl
    · rintro xs O Pv ⟨sc, d, n, m, c, rfl, hn, hN, h3, hsc, hcl, hc, p⟩
      have out : okW sc n d m = false → Pv (.d (.int 0)) O := fun h => by
        have p : Pv (.d (.int (nodesV sc n d m))) O := p
        rw [nodesV, h, if_neg Bool.false_ne_true] at p
        exact p
      repeat contradiction
      cases n with
      | zero =>
        refine ift rfl ?_
        repeat contradiction
        exact out rfl
      | succ n =>
        refine iff' (decide_eq_false (by omega)) ?_
        repeat contradiction
        by_cases hm : m < 1
        · refine ift (decide_eq_true hm) ?_
          repeat contradiction
          refine out ?_
          unfold okW
          have : ¬ ((cnt (n + 1) d : Nat) : Int) ≤ m := by
            have : 1 ≤ cnt (n + 1) d := by rw [cnt]; omega
            omega
          rw [decide_eq_false this, Bool.and_false]
        · refine iff' (decide_eq_false hm) ?_
          repeat contradiction
          refine re_callF ?_
          repeat contradiction
          refine ⟨[], O, .refl _, sc, d, rfl, h3, hsc, cl_kinds2 hcl, ?_⟩
          repeat contradiction
          cases hk : knotD sc d with
          | false =>
            refine ift rfl ?_
            repeat contradiction
            refine out ?_
            unfold okW
            rw [wvD, hk]
            rfl
          | true =>
            refine iff' rfl ?_
            repeat contradiction
            obtain ⟨l, hl⟩ := parts_some hk
            have hlc := parts_cl hcl hl
            have ew : wvD sc (n + 1) d = (l.all (wvD sc n) && ascIf d) := by rw [wvD, hk, hl]; rfl
            have ec : cnt (n + 1) d = 1 + (l.map (cnt n)).sum := by rw [cnt, hl]; rfl
            have hd1 : ∀ m, d = .tup m → m.length ≤ 1000 := fun m e => by
              obtain ⟨u, r, e2, q⟩ := knot_inv hk
              rw [e] at e2
              cases e2
              rw [List.length_cons]
              rcases q with ⟨rfl, rfl⟩ | ⟨rfl, l, rfl, q1⟩ | ⟨rfl, m, rfl, _⟩ | ⟨rfl, e, f, rfl⟩ | ⟨rfl, e, rfl⟩ | ⟨rfl, e, rfl⟩ <;> simp
            refine rs_for (ri_seq (re_callF ?_))
            repeat contradiction
            refine ⟨[], O, .refl _, d, l, rfl, hl, hd1, ?_⟩
            refine ⟨_, _, rfl, rfl, fun i ρ' O' => O' = O ∧ (l.take i).all (wvD sc n) = true ∧ ((1 + ((l.take i).map (cnt n)).sum : Nat) : Int) ≤ m ∧ ∃ y z, ρ' = [.d (.tup (txts sc)), .d d, .d (.int ((n + 1 : Nat) : Int)), .d (.int m), .d (.int ((1 + ((l.take i).map (cnt n)).sum : Nat) : Int)), y, z], ⟨rfl, rfl, by simp; omega, _, _, rfl⟩, ?_, ?_⟩
            · rintro ρ' O' ⟨rfl, ha, hs, y, z, rfl⟩
              rw [List.take_length] at ha hs
              rw [List.take_length]
              have eok : okW sc (n + 1) d m = ascIf d := by
                unfold okW
                rw [ew, ha, ec, decide_eq_true hs, Bool.true_and, Bool.and_true]
              have p : Pv (.d (.int (nodesV sc (n + 1) d m))) O' := p
              rw [nodesV, eok, ec] at p
              obtain ⟨u, r, rfl, q⟩ := knot_inv hk
              repeat contradiction
              have e2 : eqD (.str u) (.str "mix") = (u == "mix") := rfl
              rw [e2]
              cases hu : (u == "mix") with
              | false =>
                have ea : ascIf (.tup (.str u :: r)) = true := by
                  rcases q with ⟨rfl, rfl⟩ | ⟨rfl, l, rfl, q1⟩ | ⟨rfl, m, rfl, _⟩ | ⟨rfl, e, f, rfl⟩ | ⟨rfl, e, rfl⟩ | ⟨rfl, e, rfl⟩ <;> first | rfl | (cases e <;> rfl) | (exfalso; revert hu; decide +kernel)
                rw [ea, if_pos rfl] at p
                refine iff' rfl ?_
                repeat contradiction
                exact p
              | true =>
                have hu : u = "mix" := eq_of_beq hu
                subst hu
                obtain ⟨mm, rfl⟩ : ∃ mm, r = [.tup mm] := by
                  rcases q with ⟨z, _⟩ | ⟨z, _⟩ | ⟨_, m, e, _⟩ | ⟨z, _⟩ | ⟨z, _⟩ | ⟨z, _⟩
                  · exfalso; revert z; decide +kernel
                  · exfalso; revert z; decide +kernel
                  · exact ⟨m, e⟩
                  · exfalso; revert z; decide +kernel
                  · exfalso; revert z; decide +kernel
                  · exfalso; revert z; decide +kernel
                obtain rfl : mm = l := Option.some.inj hl
                refine ift rfl ?_
                repeat contradiction
                refine re_callF ?_
                repeat contradiction
                have hw := List.all_eq_true.mp ha
                obtain ⟨b, hb⟩ := wv_asc hw
                have hmm : mm.length ≤ 100000 := by
                  obtain ⟨c1, rfl, _, hm1⟩ := cl_tup hcl
                  obtain ⟨c2, rfl, hz, _⟩ := cl_tup (hm1 _ (.tail _ (.head _)))
                  exact hz
                refine ⟨[], O', .refl _, .tup mm, mm, b, rfl, rfl, hmm, fun x hx => plain_mono (wv_plain n c x (hw x hx) (hlc x hx)) hc, hb, ?_⟩
                have ea : ascIf (.tup [.str "mix", .tup mm]) = b := by
                  show decide (ascD mm = some true) = b
                  rw [hb]
                  cases b <;> rfl
                rw [ea] at p
                repeat contradiction
                cases b with
                | true => (repeat contradiction); exact p
                | false => (repeat contradiction); exact p
            · rintro i dd ρ' O' ⟨rfl, ha, hs, y, z, rfl⟩ hi
              have hm := List.mem_of_getElem? hi
              refine rg_name ?_
              repeat contradiction
              refine re_callF ?_
              repeat contradiction
              refine ⟨[], O', .refl _, sc, dd, n, m - ((1 + ((l.take i).map (cnt n)).sum : Nat) : Int), c, ?_, by omega, by omega, h3, hsc, hlc dd hm, hc, ?_⟩
              · rw [show ((n + 1 : Nat) : Int) - 1 = (n : Nat) by omega]
              · repeat contradiction
                have et : l.take (i + 1) = l.take i ++ [dd] := by rw [List.take_add_one, hi]; rfl
                cases hok : okW sc n dd (m - ((1 + ((l.take i).map (cnt n)).sum : Nat) : Int)) with
                | false =>
                  rw [nodesV, hok, if_neg Bool.false_ne_true]
                  refine ift rfl ?_
                  repeat contradiction
                  refine out ?_
                  unfold okW at hok ⊢
                  rw [Bool.and_eq_false_iff, decide_eq_false_iff_not] at hok ⊢
                  rcases hok with hok | hok
                  · left
                    rw [ew]
                    have : l.all (wvD sc n) = false := by
                      rw [List.all_eq_false]
                      exact ⟨dd, hm, by rw [hok]; exact Bool.false_ne_true⟩
                    rw [this]
                    rfl
                  · right
                    intro hz
                    refine hok ?_
                    have e3 : (l.map (cnt n)).sum = ((l.take (i + 1)).map (cnt n)).sum + ((l.drop (i + 1)).map (cnt n)).sum := by
                      conv => lhs; rw [← List.take_append_drop (i + 1) l]
                      rw [List.map_append, List.sum_append]
                    rw [et, List.map_append, List.sum_append] at e3
                    simp only [List.map_cons, List.map_nil, List.sum_cons, List.sum_nil] at e3
                    rw [ec] at hz
                    omega
                | true =>
                  have hok' := hok
                  unfold okW at hok'
                  rw [Bool.and_eq_true, decide_eq_true_eq] at hok'
                  have h1 : 1 ≤ cnt n dd := by
                    cases n with
                    | zero => cases hok'.1
                    | succ n => rw [cnt]; omega
                  rw [nodesV, hok, if_pos rfl]
                  refine iff' ?_ ?_
                  · show ((cnt n dd : Int) == 0) = false
                    rw [beq_eq_false_iff_ne]
                    omega
                  · repeat contradiction
                    have e4 : (((l.take (i + 1)).map (cnt n)).sum) = ((l.take i).map (cnt n)).sum + cnt n dd := by
                      rw [et, List.map_append, List.sum_append]
                      simp
                    refine ⟨rfl, ?_, ?_, .d dd, .d (.int (cnt n dd : Nat)), ?_⟩
                    · rw [et, List.all_append, ha]
                      simpa using hok'.1
                    · rw [e4]
                      omega
                    · rw [e4]
                      rw [show (((1 + (((l.take i).map (cnt n)).sum + cnt n dd)) : Nat) : Int) = ((1 + ((l.take i).map (cnt n)).sum : Nat) : Int) + (cnt n dd : Nat) by omega]
                      rfl
end K0
end
section
set_option Elab.async false
set_option linter.all false
set_option maxRecDepth 100000
set_option maxHeartbeats 4000000
/-! A caught exception that outlives its clause: from there on its class is known in the heap of values. -/
namespace Al
open PySem PySem.Spec PyProof.Rows L2
/-- an exception of the own class C at a, without own fields -/
def ExI (C a : Addr) : HO := .ext fun g => ∃ ob fs, g.get? a = some ob ∧ Zc (.ref C) none ob ∧ ob.data = .fields fs
theorem exI_tbl {C a : Addr} (ps : Array Value) : ExI C a ≠ .tbl ps := fun z => by unfold ExI at z; cases z
section
variable {X : Cx} {pins : List (Addr × Obj)} {σ : L2.St} {H : Hp} {s : Shared}
/-- it was not there at the entry, no cell, no frame, no pin: then it may be known -/
theorem inv_note {a C : Addr} {ob : Obj} {fs : Array Value} (J : Inv X pins σ H s) (hg : s.heap.get? a = some ob) (hz : Zc (.ref C) none ob) (hd : ob.data = .fields fs) (n0 : X.s_0.heap.get? a = none) (na : H a = none)
    (nL : X.env.locals ≠ a) (np : ∀ p ∈ X.pn ++ pins, p.1 ≠ a) : Inv X pins σ (upd H a (ExI C a)) s := by
  have ne0 : ∀ b o, X.s_0.heap.get? b = some o → b ≠ a := fun b o e z => by rw [z, n0] at e; cases e
  have nc : ∀ y c, X.env.cells.lookup y = some c → c ≠ a := fun y c e z => by
    obtain ⟨v, o, ho, hv⟩ := J.cell y c e
    rw [z, hg] at ho; cases ho
    rw [hd] at hv; cases hv
  refine ⟨J.ok, J.os, J.bare, ?B, J.loc, J.cell, ?L, fun y c e => ?C, fun p hp => ?P, fun b u e => ?O, J.len⟩
  case L => rw [upd_ne nL]; exact J.free
  case C => rw [upd_ne (nc y c e)]; exact J.freeC y c e
  case P =>
    obtain ⟨p1, p2, p3, p4, p5⟩ := J.pin p hp
    exact ⟨p1, by rw [upd_ne (np p hp)]; exact p2, p3, p4, p5⟩
  case O =>
    by_cases hb : b = a
    · subst hb
      rw [upd_same] at e
      cases e
      exact ⟨⟨ob, fs, hg, hz, hd⟩, ⟨ob, hg⟩, fun _ _ ⟨o, v, q, r⟩ k => ⟨o, v, k o q, r⟩⟩
    · rw [upd_ne hb] at e
      exact (J.hok b u e).stay (fun _ _ _ q => q) (fun d q => by rw [upd_ne (ne_of_none q na)]; exact q) fun d xs q => by rw [upd_ne (ne_of_none q na)]; exact q
  case B =>
    obtain ⟨b1, b2, b3, b4, b5, b6, b7⟩ := J.base
    refine ⟨b1, b2, fun b o e n hx => ?_, b4, fun b xs e => ?_, fun b o u e => ?_, fun b ps e => ?_⟩
    · rw [upd_ne (ne0 b o e)]; exact b3 b o e n hx
    · have q := b5 b xs e; rw [upd_ne (ne_of_none q na)]; exact q
    · have q := b6 b o u e; rw [upd_ne (ne_of_none q na)]; exact q
    · obtain ⟨m, q⟩ := b7 b ps e; exact ⟨m, by rw [upd_ne (ne_of_none q na)]; exact q⟩
end
/-- what is wished of the body's exception: it is C's; then the suite, and at its end the exception is known -/
def wTr (K : PySem.W.Frag) (m : Nat) (c : Value) (i : Nat) (C : Addr) (ts : Addr → TS) (D : Ends) : WX := fun cls d σ H => σ.length = m → cls = .ref C ∧ d = none ∧ PySem.W.exmOne K (.ref C) c = some true ∧
  ∀ a, H a = none → ts a { nx := fun σ' H' => H' a = none → D.nx (σ'.set i none) (upd H' a (ExI C a)), rt := fun _ _ => False, bk := fun _ _ => False, ct := fun _ _ => False } (σ.set i (some (.ref a))) H
section
variable {X : Cx} {x n : Str} {c : Value} {C : Addr} {i : Nat} {body suite : List Stmt} {b₀ : Stmt} {np pos pos' : Pos} {tb : WX → TS} {ts : Addr → TS}
theorem ps_tryT (st : X.stack = X.env :: X.outer) (fr : X.env.frame = some X.env.locals) (nd : X.N.Nodup) (hi : X.N[i]? = some n) (kl : X.env.kindOf n = some .local) (ex0 : X.ex = []) (hc : Names X x c)
    (hB : ∀ (W : WX) (pn : List (Addr × Obj)) (xe : Value → Shared → Prop), Takes (X.tr pn xe) W → PassesOwn (model X.prog X.w) X.A X.env xe → PSs (X.tr pn xe) body (tb W))
    (hS : ∀ (a : Addr) (ob : Obj) (pn : List (Addr × Obj)), PSs (X.suite a ((a, ob) :: pn)) (b₀ :: suite) (ts a)) :
    PS X (.Try body [.ExceptHandler (some (.Name x np)) (some n) (b₀ :: suite) pos'] [] [] pos) (fun D σ H => tb (wTr X.K X.N.length c i C ts D) D σ H) := by
  constructor
  intro pins s σ H D J0 h0
  have ok := J0.ok
  have frames : X.A.frames = some (X.env :: X.outer) := ok.frames.trans (congrArg some st)
  apply wpAny_Try_except
  have run := (hB (wTr X.K X.N.length c i C ts D) (X.pn ++ pins) (fun e t1 => wpAny (model X.prog X.w) X.A (noteFrame e X.env)
    (fun _ t2 => wpAny (model X.prog X.w) X.A (setFlight e none)
      (fun _ t3 => wpAny (model X.prog X.w) X.A (handleBy e X.env [.ExceptHandler (some (.Name x np)) (some n) (b₀ :: suite) pos']) (SP X pins D) X.xe t3) X.xe t2) X.xe t1) ?cat PassesOwn.looking).run [] s σ H D (J0.toTry _) h0
  case cat =>
    rintro u t ⟨a, B, sI, pp, σ1, H1, cls, d, rfl, J1, nB, up, sky, na, hos, hag, hw⟩
    have JI : Inv X pins σ1 H1 sI := J1.ofTry ok
    obtain ⟨rfl, rfl, hx, hyes⟩ := hw JI.len
    rw [show (X.tr (X.pn ++ pins) _).stack = X.env :: X.outer from st] at sky
    apply Sky.land Zc.steady frames fr sky
    intro g1 fl1 up1
    have JL : Inv X pins σ1 H1 { t with heap := g1 } := JI.landed nB fl1.1 (up.trans up1) hos hag
    obtain ⟨o1, v1, at1, z1, d1⟩ := fl1.there
    have apart : a ∉ frs (X.env :: X.outer) := fun hm => by
      obtain ⟨_, o', e', hnf⟩ := fl1.2.2.1.mem hm
      rw [at1] at e'
      cases e'
      exact hnf _ d1
    have aI : sI.heap.get? a = none := by
      cases q : sI.heap.get? a with
      | none => rfl
      | some o => exact absurd (nB a o q (by rw [show (X.tr (X.pn ++ pins) _).stack = X.env :: X.outer from st]; exact apart)) (by rw [fl1.2.1]; exact fun z => nomatch z)
    have aL : a ≠ X.env.locals := fun z => apart (List.mem_filterMap.mpr ⟨X.env, .head _, by rw [fr, z]⟩)
    have aF : a ∉ X.fs := fun hm => by
      obtain ⟨e, he, q⟩ := List.mem_filterMap.mp hm
      exact apart (List.mem_filterMap.mpr ⟨e, .tail _ he, q⟩)
    have a0 : X.s_0.heap.get? a = none := by
      cases q : X.s_0.heap.get? a with
      | none => rfl
      | some o =>
        obtain ⟨o', z⟩ := JI.base.there a o q (by rw [ex0]; exact fun z => nomatch z)
        rw [aI] at z; cases z
    have aP : ∀ p ∈ X.pn ++ pins, p.1 ≠ a := fun p hp z => by
      have q := (JI.pin p hp).1
      rw [z, aI] at q; cases q
    have SU := JL.suite at1 d1 na aL aF
    apply wpAny_handleBy_cons _ (by intro q; cases q)
    apply codeAny_handlers_test
    have tests : ∀ {Q E : Value → Shared → Prop}, Q c { t with heap := g1 } → wpAny (model X.prog X.w) (X.A.mark (some (.ref a))) (eval (.Name x np) X.env) Q E { t with heap := g1 } := fun {Q E} q => by
      rcases hc with ⟨hg, hdb, hm | ⟨hm, hv, hn⟩⟩
      · exact ld_glob (X := X.suite a ((a, o1) :: (X.pn ++ pins))) SU hg hm q hdb
      · exact ld_blt (X := X.suite a ((a, o1) :: (X.pn ++ pins))) SU hg hm hv q hn hdb
    have LT : PySem.W.Looks (model X.prog X.w) g1 (typeOf (.ref a)) (.ref C) := fun _ _ _ _ k q => wpAny_typeOf_ref (k _ _ at1) (by rw [z1.1]; exact q)
    apply tests
    apply (PySem.W.exm_one (M := model X.prog X.w) JL.kIn LT hx).here
    apply codeAny_handlers_suite_as
    apply HandSPX.lands_againZ fl1
    intro g2 fl2 up2
    have JM : Inv X pins σ1 H1 { t with heap := g2 } := JI.landed nB fl2.1 ((up.trans up1).trans up2) hos hag
    obtain ⟨o2, v2, at2, z2, d2⟩ := fl2.there
    have SV := JM.suite at2 d2 na aL aF
    apply store_ok (X := X.suite a ((a, o2) :: (X.pn ++ pins))) (v := .ref a) SV nd hi (.inl kl) rfl _ (.inr kl)
    intro s5 S5
    refine wpAny_mono ((hS a o2 (X.pn ++ pins)).run [] s5 _ H1 _ S5 (hyes a na)) (fun f s6 hf => ?_) fun _ _ z => z.elim
    cases f with
    | next =>
      obtain ⟨σ6, H6, S6, q6⟩ := hf
      obtain ⟨p1, p2, _⟩ := S6.pin (a, o2) (by simp)
      have J6 := inv_note (S6.unsuite ok) p1 z2 d2 a0 p2 (Ne.symm aL) aP
      exact gone_ok J6 nd hi kl fun s7 J7 => ⟨_, _, J7, q6 p2⟩
    | brk => obtain ⟨_, _, _, q⟩ := hf; exact q.elim
    | cont => obtain ⟨_, _, _, q⟩ := hf; exact q.elim
    | ret u => obtain ⟨_, _, _, _, _, q⟩ := hf; exact q.elim
  refine wpAny_mono run (fun f s1 hf => ?_) fun _ _ z => z
  cases f with
  | next => obtain ⟨σ', H', J', q⟩ := hf; exact wpAny_execs_nil ⟨σ', H', J'.ofTry ok, q⟩
  | brk => obtain ⟨σ', H', J', q⟩ := hf; exact ⟨σ', H', J'.ofTry ok, q⟩
  | cont => obtain ⟨σ', H', J', q⟩ := hf; exact ⟨σ', H', J'.ofTry ok, q⟩
  | ret u => obtain ⟨v, σ', H', J', r, q⟩ := hf; exact ⟨v, σ', H', J'.ofTry ok, r, q⟩
end
end Al
end
section
set_option Elab.async false
set_option linter.all false
set_option maxRecDepth 100000
set_option maxHeartbeats 4000000
/-! A lambda without parameters handed to a def: what the heap of values is then, told exactly. -/
namespace Al
open PySem PySem.Spec PyProof.Rows L2 LamX
/-- nothing is new, or one code object and one row of the table at P -/
def OneMore (P : Addr) (q : Str) (H H1 : Hp) : Prop := H1 = H ∨ ∃ (rows : Array Value) (k : Addr), H k = none ∧ P ≠ k ∧ H1 = upd (upd H P (.tbl rows)) k (CodeO k q) ∧ ∀ (pos : Pos) (cv : Value), codeAmong pos rows.toList = some cv → (∃ r0 : Array Value, H P = some (.tbl r0) ∧ codeAmong pos r0.toList = some cv) ∨ cv = .ref k
section
variable {X : Cx} {pins : List (Addr × Obj)} {σ : L2.St} {H : Hp} {s : Shared}
theorem lam_one {c P : Addr} {ar : Arguments} {bd : Expr} {sc : Scope} {pos : Pos} {E Q : Value → Shared → Prop} (J : Inv X pins σ H s) (tb : LamX.TabB X.base X.mg c P) (cd : X.env.code = .ref c)
    (hT : TabS H P (X.env.qual ++ "<lambda>")) (df : defaultsOf ar X.env = ([], [])) (fr : ∀ y ∈ sc.names, y.2 = .free → ∃ c, X.env.cells.lookup y.1 = some c)
    (goal : ∀ (f k : Addr) (pm cv : Value) (H1 : Hp) (t : Shared), Inv X pins σ H1 t → OneMore P (X.env.qual ++ "<lambda>") H H1 → TabS H1 P (X.env.qual ++ "<lambda>") →
      t.heap.get? f = some (PySem.W.kla_obj "<lambda>" (X.env.qual ++ "<lambda>") ar bd sc (cloFrom X.env.cells sc.names []) pm k cv) → H1 f = none → f ∉ frs X.stack → H1 k = some (CodeO k (X.env.qual ++ "<lambda>")) → Q (.ref f) t) :
    wpAny (model X.prog X.w) X.A (eval (.Lambda ar bd sc pos) X.env) Q E s := by
  have hT' := hT
  obtain ⟨rows, at1, tri, names⟩ := hT
  apply PySem.W.kla_eval df
  have bP := tb.bm.keeps J.bk
  have real : s.heap.get? P = some { cls := .none, data := .fields rows } := J.hok P _ at1
  have nofr : ∀ f, s.heap.objs.size ≤ f → f ∉ frs X.stack := fun f hf z => (List.mem_cons.mp (J.stkSub _ z)).elim
    (fun e => Nat.lt_irrefl _ (Nat.lt_of_lt_of_le (by have := J.lt; rw [← e] at this; exact this) hf)) fun e => J.nofs hf e
  cases hit : codeAmong pos rows.toList with
  | some cv =>
    obtain ⟨k, rfl, hk⟩ := names pos cv hit
    apply PySem.W.kla_makeFunctionHit (mg := X.mg) (c := c) (P := P) (ps := rows) (closure_ok fr) J.ok.glob (J.mod.glob.keeps J.bk) cd (tb.code.keeps J.bk) real tri hit bP
    intro ctv g tk hx hsz
    exact goal g.objs.size k _ ctv H _ (J.kept fun b o e => Heap.get?_push_of_some _ (hx b o e)) (.inl rfl) hT' (Heap.get?_push_size _ rfl) (J.hok.fresh hsz) (nofr _ hsz) hk
  | none =>
    apply PySem.W.kla_makeFunction (mg := X.mg) (c := c) (P := P) (ps := rows) (closure_ok fr) J.ok.glob (J.mod.glob.keeps J.bk) cd (tb.code.keeps J.bk) real tri hit tb.gP bP
    intro k ctv g tk hx hge hlt hrec htb
    obtain ⟨k2, oc, vs, t, e2, hoc, hd, hv⟩ := hrec
    cases e2
    have hsz : s.heap.objs.size ≤ g.objs.size := Nat.le_trans hge (Nat.le_of_lt hlt)
    have nk : H k = none := J.hok.fresh hge
    have nPk : P ≠ k := ne_of_none at1 nk
    have J1 := inv_table (t' := tk) (more := #[rawInt pos.line, rawInt pos.col, .ref k]) (h' := g.push (PySem.W.kla_obj "<lambda>" (X.env.qual ++ "<lambda>") ar bd sc (cloFrom X.env.cells sc.names []) ((X.mg "__name__").getD .none) k ctv)) J at1
      (fun b o hb e => Heap.get?_push_of_some _ (hx b o hb e)) (Heap.get?_push_of_some _ htb) hge ⟨oc, vs, t, Heap.get?_push_of_some _ hoc, hd, hv⟩
    have el : (rows ++ #[rawInt pos.line, rawInt pos.col, .ref k]).toList = rows.toList ++ [rawInt pos.line, rawInt pos.col, .ref k] := by simp
    refine goal g.objs.size k ((X.mg "__name__").getD .none) ctv _ _ J1 (.inr ⟨_, k, nk, nPk, rfl, fun p' cv hcv => by rw [el] at hcv; exact (among_app _ tri hcv).imp (fun z => ⟨rows, at1, z⟩) id⟩) ⟨_, by rw [upd_ne nPk, upd_same], by rw [el]; exact TriplesOk_snoc _ _ _ _ tri, fun p' cv hcv => ?_⟩ (Heap.get?_push_size _ rfl) ?_ (nofr _ hsz) upd_same
    · rw [el] at hcv
      rcases among_app _ tri hcv with z | z
      · obtain ⟨k0, e1, hk0⟩ := names p' cv z
        refine ⟨k0, e1, ?_⟩
        rw [upd_ne (ne_of_none hk0 nk), upd_ne (fun z => by rw [z, at1] at hk0; exact codeO_ne rows (Option.some.inj hk0).symm)]
        exact hk0
      · exact ⟨k, z, upd_same⟩
    · rw [upd_ne (Nat.ne_of_gt hlt), upd_ne (Nat.ne_of_gt (Nat.lt_of_lt_of_le (Heap.lt_size real) hsz))]
      exact J.hok.fresh hsz
end
/-- x(lambda: bd) -/
def tLamE (P : Addr) (q : Str) (TT : (XK → Hp → VK → Prop) → Hp → VK → Prop) (t : XK → TE) : TE := fun σ H Q => TabS H P q ∧ ∀ H1, OneMore P q H H1 → TabS H1 P q → TT (fun E H' Q' => t E σ H' Q') H1 Q
section
variable {X : Cx}
theorem pe_lamE {TT : (XK → Hp → VK → Prop) → Hp → VK → Prop} {x a : Str} {g c P : Addr} {k : Nat} {pg : Arguments} {bg : List Stmt} {sg : Scope} {dV kV doc pm cdv ct oc : Value} {an od : Option Addr} {osl : Array (Option Value)} {Ng : List Str}
    {ar : Arguments} {bd : Expr} {sc : Scope} {t : XK → TE} {p lp pos : Pos} (hg : Gl X x) (hm : X.mg x = some (.ref g)) (kp : PySem.W.keepIn X.K (.ref g) = true)
    (lk : X.K.lookup g = some ⟨oc, od, .func (PySem.W.fnOf x x pg bg sg dV kV doc pm an cdv ct), osl⟩) (cg : PySem.W.codeIn X.K cdv x = true) (bi : L2.Binds X.K (PySem.W.fnOf x x pg bg sg dV kV doc pm an cdv ct) [a] []) (Sg : FnScope Ng [a] sg) (N0 : Ng[0]? = some a) (va : Vis sg a)
    (gives : GivesTo X Ng x sg g cdv bg a (X.env.qual ++ "<lambda>") TT) (tb : LamX.TabB X.base X.mg c P) (cd : X.env.code = .ref c) (hr : Room (k + 2) X.A) (L : LamS X.env.scope sc) (df : defaultsOf ar X.env = ([], []))
    (bl : ∀ (q : Str) (cl : List (Str × Addr)) (pm cv ctv : Value), bindArgs (PySem.W.kla_fn "<lambda>" q ar bd sc cl pm cv ctv) ⟨[], []⟩ = pure [])
    (body : ∀ (A : Around) (outer : List PySem.Env) (s : Shared) (H : Hp) (E : XK) (f k' : Addr), Room k (A.deeper (lamEnv X sc s.heap.objs.size f k')) → PE (lamCx X A outer s H E sc f k') bd (t E))
    (hdb : (x == ("__debug__" : Str)) = false := by decide) (hd : (a == ("__debug__" : Str)) = false := by decide) (hcd : (a == ("__classdict__" : Str)) = false := by decide) :
    PE X (.Call (.Name x p) [.Lambda ar bd sc lp] [] pos) (tLamE P (X.env.qual ++ "<lambda>") TT t) := by
  constructor
  rintro pins s σ H Q J ⟨hT, h⟩
  apply wpAny_Call_Name_kw
  apply ld_glob J hg hm _ hdb
  apply PySem.W.callWith_K (h₀ := X.base) J.ok.mod.kin kp _ (by rfl) (by rfl)
  show wpAny _ _ (spliced ((false, eval (.Lambda ar bd sc lp) X.env) :: backTo pos (starEach [] X.env))) _ _ s
  apply Calls.spliced_cons
  apply lam_one J tb cd hT df (L.has J.ok)
  intro f k' pm' ctv H1 t1 J1 one T1 hf hfn hfr hk
  apply Calls.spliced_nil
  refine ⟨J1.kIn, ?_⟩
  have called : codeAny (model X.prog X.w) X.A (.call (.ref g) ⟨[.ref f], []⟩) (CR C8.CX0 X.stack X.prog X.w H1 t1 Q C8.E0) t1 :=
    run_ofS (N := Ng) (ps := [a]) (us := [.ref f]) (vs := [.ref f]) lk cg Sg hr J1.env0 (bi t1 [.ref f] J1.kIn rfl) (.cons rfl .nil) rfl fun hr1 => by
      obtain ⟨tr, ht, hq⟩ := gives f k' t1 H1 Q (fun E H' Q' => t E σ H' Q') (fun W pn xe E p1 p2 tk hW => pe_act (i := 0) J1 L hf hfn hfr (bl _ _ _ _ _) tk hW hr1 (fun A o s0 H0 hr2 => body A o s0 H0 E f k' hr2) N0 va hd hcd) hk (h H1 one T1)
      exact ⟨tr, ht.nox, hq⟩
  refine wpAny_call (codeAny_mono called fun r s2 hq => ?_)
  match r, hq with
  | .error _, hq => exact (show False from hq).elim
  | .ok (.ret u), hq => exact J1.after hq
  | .ok .next, hq => exact False.elim hq
  | .ok .brk, hq => exact False.elim hq
  | .ok .cont, hq => exact False.elim hq
end
end Al
end
section
set_option Elab.async false
set_option linter.all false
set_option maxRecDepth 100000
set_option maxHeartbeats 4000000
/-! e = None; try: a() except x as n: e = n; return e. -/
namespace Al
open PySem PySem.Spec PyProof.Rows L2 LamX
/-- what it makes of the lambda, which raises C's exception: that one, from there on known -/
def TTrue (C : Addr) : (XK → Hp → VK → Prop) → Hp → VK → Prop := fun tl H Q => ∀ Qn : VK, tl (fun cls d H' => cls = .ref C ∧ d = none ∧ ∀ a, H' a = none → Q (.ref a) (upd H' a (ExI C a))) H Qn
theorem caught_gives {X : Cx} {x a b e n q : Str} {sg : Scope} {g CS C : Addr} {cdg : Value} {j : Nat} {p1 p2 p3 p4 p5 p6 p7 p8 p9 q1 q2 q3 q4 q5 : Pos} (hge : sg.names.lookup e = some .globalImplicit) (hme : X.mg e = some (.ref CS)) (hde : (e == ("__debug__" : Str)) = false)
    (S : FnScope [a, b, n] [a] sg) (kn : sg.names.lookup n = some .local) (kb : sg.names.lookup b = some .local) (hx : PySem.W.exmOne X.K (.ref C) (.ref CS) = some true)
    (hb : (b == ("__debug__" : Str)) = false := by decide) (hb2 : (b == ("__classdict__" : Str)) = false := by decide) (hn : (n == ("__debug__" : Str)) = false := by decide) (hn2 : (n == ("__classdict__" : Str)) = false := by decide) :
    GivesTo X [a, b, n] x sg g cdg [.Assign [.Name b p1] (.Constant .none j p2) p3, .Try [.Expr (.Call (.Name a p4) [] [] p5) p6] [.ExceptHandler (some (.Name e p7)) (some n) [.Assign [.Name b p8] (.Name n p9) q1] q2] [] [] q3, .Return (some (.Name b q4)) q5] a q (TTrue C) := by
  intro f c' s H Q tl act hc h
  have hgl : Gl (cxOf C8.CX0 X.prog X.w X.K X.mg X.base [a, b, n] x sg g cdg X.A X.stack s H C8.E0).nox e := hge
  refine ⟨_, pss_cons (ps_set (i := 1) S.nd rfl (.inl kb) pe_non) (pss_cons (ps_tryT (X := (cxOf C8.CX0 X.prog X.w X.K X.mg X.base [a, b, n] x sg g cdg X.A X.stack s H C8.E0).nox) (c := .ref CS) (C := C) (i := 2)
      (tb := fun W D σ H => ∃ Ech : XK, (∀ cls d σ' H', Ech cls d H' → W cls d σ' H') ∧ σ[0]? = some (some (.ref f)) ∧ H c' = some (CodeO c' q) ∧ tl Ech H (fun _ H' => D.nx σ H'))
      rfl rfl S.nd rfl kn rfl ⟨hgl, hde, .inl hme⟩ (fun W pn xe tk _ => ?_) (fun a' ob pn => pss_one (ps_set (i := 1) S.nd rfl (.inl kb) (pe_var (i := 2) rfl (.inl kn) hn hn2)))) (pss_one (ps_ret (pe_var (i := 1) rfl (.inl kb) hb hb2)))), ?_⟩
  · constructor
    rintro pins s' σ H' D J ⟨Ech, hW, h1, h2, h3⟩
    exact (pss_one (ps_expr (pos := p6) (act W pn xe Ech p4 p5 tk hW))).run pins s' σ H' D J ⟨h1, h2, h3⟩
  · refine ⟨_, ?_, rfl, hc, h _⟩
    rintro cls d σ' H' ⟨rfl, rfl, hq⟩ hl
    refine ⟨rfl, rfl, hx, fun e0 ne => ?_⟩
    match σ', hl with
    | [u0, u1, u2], _ => exact ⟨_, rfl, fun nh => ⟨_, rfl, hq e0 nh⟩⟩
end Al
end
section
set_option Elab.async false
set_option linter.all false
set_option maxRecDepth 100000
set_option maxHeartbeats 4000000
/-! Defs that raise, on data; isinstance of a caught exception. -/
namespace Al
open PySem PySem.Spec PyProof.Rows L2 LamX
variable {K : PySem.W.Frag} {T : List Addr}
section
variable {P : Program} {w : World} {mg : Str → Option Value} {base : Heap}
/-- as FunT.ok, for a def that raises: word for word what its body's reading must show -/
theorem FunT.okX {x : Str} {st : Stmt} {f c : Addr} {fd : FuncData} {N ps : List Str} {k : Nat} {sp : Sp} (Fn : FunT K x st f fd c) (S : FnScope N ps (defScope st)) (len : ∀ vs H Q E, sp vs H Q E → vs.length = ps.length)
    (body : ∀ (A : Around) (outer : List PySem.Env) (s : Shared) (H : Hp) (E : XK), Room k (A.deeper (envOfC x (defScope st) s.heap.objs.size f (.ref c))) →
      ∃ t, PSs (cxOf (L2.CX P w) P w K mg base N x (defScope st) f (.ref c) A outer s H E) (defBody st) t ∧ ∀ vs Q, sp vs H Q E → t { nx := fun _ H' => Q .non H', rt := Q } (L2.start N vs) H) :
    FnOk P w K mg base (L2.CX P w) (k + 1) f fd ps sp := by
  obtain ⟨oc, od, kV, doc, pm, an, ct, osl, rfl, lk, hcd⟩ := Fn.ex
  refine fn_of lk hcd S len fun A outer s H vs Q E hr h => ?_
  obtain ⟨t, ht, hb⟩ := body A outer s H E hr
  exact ⟨t, ht, hb vs Q h⟩
end
/-- called so it raises C's exception -/
def spRaise (K : PySem.W.Frag) (T : List Addr) (C : Addr) (S : List Sl → Own → (Own → Prop) → Prop) : Sp := fun vs H _ E => ∃ F O Ξ xs PX, Wd K T F (O ++ Ξ) H ∧ Args K F xs vs ∧ S xs O PX ∧
  ∀ F' O' H', Ex F F' → Wd K T F' (O' ++ Ξ) H' → PX O' → E (.ref C) none H'
/-- an expression, read for an exception of C -/
def RunXE (K : PySem.W.Frag) (T : List Addr) (C : Addr) (t : XK → TE) (ρ : Rho) (O : Own) (PX : Own → Prop) : Prop := ∀ (F H : Hp) (Ξ : Own) (σ : L2.St), Wd K T F (O ++ Ξ) H → Env K F ρ σ →
  ∀ (E : XK) (Q : VK), (∀ F' O' H', Ex F F' → Wd K T F' (O' ++ Ξ) H' → PX O' → E (.ref C) none H') → t E σ H Q
theorem rx_call {C : Addr} {S : List Sl → Own → (Own → Prop) → Prop} {ta : TA} {ρ : Rho} {O : Own} {PX : Own → Prop} (h : RunA K T ta ρ O fun xs O1 => S xs O1 PX) : RunXE K T C (fun E => tCallS (spRaise K T C S) (fun _ => E) ta) ρ O PX := fun F H Ξ σ wd e E Q q =>
  h F H Ξ σ wd e _ fun vs xs F1 O1 H1 e1 w1 rx h1 => ⟨F1, O1, Ξ, xs, PX, w1, rx, h1, fun F2 O2 H2 e2 w2 p2 => q F2 O2 H2 (e1.trans e2) w2 p2⟩
/-- the class C asks of its exceptions what isinstance wants; C2 stands above it, or not -/
def rIsX (K : PySem.W.Frag) (C : Addr) (c2 : Value) (b : Bool) : List V → Hp → VK → Prop := fun xs H Q => ∃ (a : Addr) (c : V), xs = [.ref a, c] ∧ (∀ u, RelV c u → u = c2) ∧ H a = some (ExI C a) ∧ Q (.bl b) H
theorem call_isX {X : Cx} {C : Addr} {c2 : Value} {b : Bool} (Ec : ExcC X.K C) (kit : PySem.W.kitOne X.K (.ref C) c2 = some b) : CallR X (.builtin "isinstance") (rIsX X.K C c2 b) := by
  rintro pins s σ H xs us Q J r ⟨a, c, rfl, hc, ha, q⟩
  cases r with
  | cons rx rr =>
    cases rr with
    | cons rt rr =>
      cases rr
      cases rx
      obtain rfl := hc _ rt
      obtain ⟨⟨ob, fs, hg, ⟨z1, z2⟩, hd⟩, _, _⟩ := J.hok a _ ha
      have at1 : PySem.W.InstAt s.heap a ob C none := by
        obtain ⟨oc, od, oda, osl⟩ := ob
        dsimp only at z1 z2 hd
        subst z1 z2 hd
        exact ⟨hg, rfl, rfl, trivial⟩
      exact PySem.W.kia_one (PySem.W.handS_kitx_exc Ec.hg Ec.hk Ec.hs Ec.hd Ec.ha Ec.hn Ec.ht Ec.hm) J.kIn at1 kit (fun z => nomatch z) fun tk => ⟨.bl b, H, J.kept (t' := tk) fun _ _ z => z, rfl, q⟩
/-- the world behind one more lambda -/
theorem wd_lam {F : Hp} {O : Own} {H H1 : Hp} {P : Addr} {q : Str} (w : Wd K T F O H) (hO : (P, C.tb q) ∈ O) (one : OneMore P q H H1) (hT : TabS H1 P q) : ∃ F1, Ex F F1 ∧ Wd K T F1 O H1 := by
  rcases one with rfl | ⟨rows, k, nk, nP, rfl, old⟩
  · exact ⟨F, Ex.refl F, w⟩
  · have fk : F k = none := w.ex.back nk
    have fP : F P = none := w.off _ hO P (by simp [adr])
    obtain ⟨r0, at0, t0, n0⟩ := w.own _ hO
    have tP : P ∉ T := w.dis _ hO P (by simp [adr])
    have onlyP : ∀ p ∈ O, P ∈ adr p → p = (P, C.tb q) := fun p hp hm => by
      have nd := w.nd
      have : ∀ l : Own, (l.flatMap adr).Nodup → p ∈ l → (P, C.tb q) ∈ l → p = (P, C.tb q) := by
        intro l
        induction l with
        | nil => intro _ h; cases h
        | cons x l ih =>
          intro hn h1 h2
          rw [List.flatMap_cons, List.nodup_append] at hn
          rcases List.mem_cons.mp h1 with rfl | m1 <;> rcases List.mem_cons.mp h2 with e | m2
          · exact e.symm
          · exact absurd rfl (hn.2.2 P hm P (List.mem_flatMap.mpr ⟨_, m2, by simp [adr]⟩))
          · subst e
            exact absurd rfl (hn.2.2 P (by simp [adr]) P (List.mem_flatMap.mpr ⟨_, m1, hm⟩))
          · exact ih hn.2.1 m1 m2
      exact this O nd hp hO
    have far : ∀ a, H a ≠ none → a ≠ P → upd (upd H P (.tbl rows)) k (CodeO k q) a = H a := fun a h1 h2 => by
      rw [upd_ne (fun z => h1 (by rw [z]; exact nk)), upd_ne h2]
    have eF : Ex F (upd F k (CodeO k q)) := Ex.new fk
    refine ⟨upd F k (CodeO k q), eF, ⟨fun a o e => ?_, fun p hp => ?_, fun p hp a ha => ?_, w.nd, fun G hG => ?_, w.dis⟩⟩
    · by_cases z : a = k
      · subst z; rw [upd_same] at e ⊢; exact e
      · rw [upd_ne z] at e
        rw [far a (by rw [w.ex a o e]; exact fun z => nomatch z) (fun z => by rw [z, fP] at e; cases e)]
        exact w.ex a o e
    · by_cases hm : P ∈ adr p
      · rw [onlyP p hp hm]
        obtain ⟨r1, at1, t1, n1⟩ := hT
        have e1 : upd (upd H P (.tbl rows)) k (CodeO k q) P = some (.tbl rows) := by rw [upd_ne nP, upd_same]
        obtain rfl : r1 = rows := HO.tbl.inj (Option.some.inj (at1.symm.trans e1))
        refine ⟨r1, at1, t1, fun pos cv hc => ?_⟩
        rcases old pos cv hc with ⟨r2, z1, z2⟩ | rfl
        · obtain rfl : r2 = r0 := HO.tbl.inj (Option.some.inj (z1.symm.trans at0))
          obtain ⟨c, e3, e4⟩ := n0 pos cv z2
          exact ⟨c, e3, eF _ _ e4⟩
        · exact ⟨k, rfl, upd_same⟩
      · exact (w.own p hp).mono eF fun a ha o e => by
          rw [far a (by rw [e]; exact fun z => nomatch z) (fun z => hm (by rw [← z]; exact ha))]
          exact e
    · obtain ⟨o, e⟩ := (w.own p hp).some a ha
      rw [upd_ne (ne_of_none e nk)]
      exact w.off p hp a ha
    · obtain ⟨g1, g2⟩ := w.tab G hG
      have gk : G ≠ k := by obtain ⟨ps, z, _⟩ := g1; exact ne_of_none z nk
      exact ⟨TabG.mono g1 fun o e => by rw [far G (by rw [e]; exact fun z => nomatch z) (fun z => tP (by rw [← z]; exact hG))]; exact e, by rw [upd_ne gk]; exact g2⟩
/-- isinstance(x(lambda: ..), C), the lambda raising C's exception -/
theorem re_isCaught {C P : Addr} {q : Str} {t : XK → TE} {ρ : Rho} {O : Own} {Pv : PV} (hO : (P, Al.C.tb q) ∈ O) (h : RunXE K T C t ρ O fun O' => Pv (.d (.bl true)) O') :
    RunE K T (tCB (rIsX K C (.ref C) true) (tCons (tLamE P q (TTrue C) t) (tCons (tC (.ref C)) tNil))) ρ O Pv := fun F H Ξ σ w e Q k => by
  have hO2 : (P, Al.C.tb q) ∈ O ++ Ξ := List.mem_append_left _ hO
  obtain ⟨rows, a1, a2, a3⟩ := w.own _ hO2
  refine ⟨⟨rows, a1, a2, fun pos cv hc => (a3 pos cv hc).elim fun c z => ⟨c, z.1, w.ex _ _ z.2⟩⟩, fun H1 one hT Qn => ?_⟩
  obtain ⟨F1, e1, w1⟩ := wd_lam w hO2 one hT
  refine h F1 H1 Ξ σ w1 (e.mono e1) _ Qn fun F2 O2 H2 e2 w2 p2 => ⟨rfl, rfl, fun a na => ?_⟩
  refine ⟨a, .ref C, rfl, fun u hu => hu, upd_same, ?_⟩
  exact k (.bl true) (.d (.bl true)) _ O2 _ ((e1.trans e2).trans (Ex.new (w2.ex.back na))) (w2.new na) rfl p2
end Al
end
section
set_option Elab.async false
set_option linter.all false
set_option maxRecDepth 100000
set_option maxHeartbeats 2000000
namespace K0
open PySem PySem.Spec PyProof.Rows L2 Al
variable {P : Program} {w : World} {K : PySem.W.Frag} {mg : Str → Option Value} {base : Heap} {a : Ad}
local macro_rules
  | `(tactic| contradiction) => `(tactic| first
    | with_reducible refine rs_seq ?_ | with_reducible refine rs_if ?_ | with_reducible refine rs_ret ?_ | with_reducible refine rt_and ?_ | with_reducible refine rt_or ?_ | with_reducible refine rt_not ?_ | with_reducible refine rt_test ?_ | with_reducible refine rt_B ?_ | with_reducible refine rs_asg ?_ | with_reducible refine rs_par ?_
    | with_reducible refine re_cb ?_ | with_reducible refine re_op ?_ | with_reducible refine re_if ?_ | with_reducible refine re_un ?_ | with_reducible refine ra_cons ?_ | with_reducible refine ra_nil ?_ | with_reducible refine re_int ?_ | with_reducible refine re_str ?_ | with_reducible refine re_bl ?_ | with_reducible refine re_non ?_ | with_reducible refine re_ty ?_ 
    | refine re_var rfl (fun z => by cases z) ?_ | with_reducible refine rr_b ?_ | with_reducible refine rr_i ?_ | with_reducible refine ru_i ?_
    | with_reducible refine rc_isi rfl (by first | exact (show kitB _ _ = some true by decide +kernel) | exact (show kitB _ _ = some false by decide +kernel)) ?_
    | with_reducible refine rc_len rfl ?_ | with_reducible refine rr_ix rfl atI_0 ?_ | with_reducible refine rr_ix rfl atI_1 ?_
    | with_reducible refine rr_eqF rfl ?_ | with_reducible refine rr_neF rfl ?_ | with_reducible refine rr_addI ?_ | with_reducible refine rc_abs ?_ | with_reducible refine rc_int ?_ | with_reducible refine rc_min ?_
    | refine ⟨_, rfl, ?_⟩ | rw [if_pos rfl] | rw [if_neg Bool.false_ne_true] | with_reducible refine rs_next ?_ | (with_reducible refine ift ?_ ?_; focus (simp; done)) | (with_reducible refine iff' ?_ ?_; focus (simp; done)) | dsimp only)



/-- what the top's written part says of an own class C that stands below CS -/
structure ClsF (K : PySem.W.Frag) (C CS : Addr) : Prop where
  xP : PySem.W.excIn K C [.type "ValueError", .type "Exception", .type "BaseException", .type "object"] "ValueError.__new__" = true
  kP : PySem.W.keepIn K (.ref C) = true
  bP : PySem.W.subIn K (.ref C) (.type "BaseException") = some true
  tP : PySem.W.typeIn K (.ref C) = some (.type "type")
  eP : PySem.W.exmOne K (.ref C) (.ref CS) = some true
  iP : ExcC K C
/-! ### need_scope -/
def spNeed : Prm := fun xs O Pv => ∃ d, xs = [.d d] ∧ smallL d ∧ scopeD d = true ∧ Pv (.d .non) O
theorem ok_need {k : Nat} (X : Txt K mg base a) (hk : ∀ F, Rp K F (.tup (txts kept)) (.ref a.o_KEPT)) (E_BadScope : ClsF K a.C_BadScope a.C_OrderError) : FnOk P w K mg base CX0 (k + 11) a.f_need_scope a.d_need_scope ["scope"] (spOf K (T a) spNeed) := by
  have G_is_scope := ok_scope (P := P) (w := w) (k := k) X hk
  refine X.F_need_scope.ok sc_need_scope ?_ fun A outer s H E hr => ⟨_, (pss_one (ps_if (pt_not (pt_val (pe_call (G_is_scope) (hr.mono (by omega)) (by rfl) X.g_is_scope X.F_is_scope.kp X.b_is_scope .nil pass0 (pa_cons (pv 0) pa_nil)))) (pss_one (ps_raise rfl takes0 (pmk_own PySem.F.excBase_ValueError E_BadScope.xP X.g_BadScope E_BadScope.kP (raises_own E_BadScope.bP E_BadScope.tP) rfl))) pss_nil)), ?_⟩
  · rintro xs O Pv ⟨d, rfl, _⟩
    rfl
  · rintro xs O Pv ⟨d, rfl, hs, hd, p⟩
    repeat contradiction
    refine re_callF ?_
    repeat contradiction
    refine ⟨[], O, .refl _, d, rfl, hs, ?_⟩
    repeat contradiction
    rw [hd]
    refine iff' rfl ?_
    exact rs_next p
def sxNeed : List Sl → Own → (Own → Prop) → Prop := fun xs O PX => ∃ d, xs = [.d d] ∧ smallL d ∧ scopeD d = false ∧ PX O
theorem okx_need {k : Nat} (X : Txt K mg base a) (hk : ∀ F, Rp K F (.tup (txts kept)) (.ref a.o_KEPT)) (E_BadScope : ClsF K a.C_BadScope a.C_OrderError) : FnOk P w K mg base (L2.CX P w) (k + 11) a.f_need_scope a.d_need_scope ["scope"] (spRaise K (T a) a.C_BadScope sxNeed) := by
  have G_is_scope := ok_scope (P := P) (w := w) (k := k) X hk
  refine X.F_need_scope.okX sc_need_scope ?_ fun A outer s H E hr => ⟨_, (pss_one (ps_if (pt_not (pt_val (pe_call (G_is_scope) (hr.mono (by omega)) (by rfl) X.g_is_scope X.F_is_scope.kp X.b_is_scope .nil pass0 (pa_cons (pv 0) pa_nil)))) (pss_one (ps_raise rfl (takes_of rfl rfl rfl rfl) (pmk_own PySem.F.excBase_ValueError E_BadScope.xP X.g_BadScope E_BadScope.kP (raises_own E_BadScope.bP E_BadScope.tP) rfl))) pss_nil)), ?_⟩
  · rintro vs H Q E ⟨F, O, Ξ, xs, PX, wd, ra, ⟨d, rfl, _⟩, _⟩
    exact ra.length
  · rintro vs Q ⟨F, O, Ξ, xs, PX, wd, ra, ⟨d, rfl, hs, hd, p⟩, q⟩
    have he := env_start (N := ["scope"]) ra
    have test : RunT K (T a) (tNot (tTest (tCall (spOf K (T a) spScope) [] E0 (tCons (tVar 0) tNil)))) (startR 1 [.d d]) O fun b O' => b = true ∧ O' = O := by
      repeat contradiction
      refine re_callF ?_
      repeat contradiction
      refine ⟨[], O, .refl _, d, rfl, hs, ?_⟩
      repeat contradiction
      rw [hd]
      exact ⟨rfl, rfl⟩
    refine test F H Ξ _ wd he _ fun b F' O' H' e1 w1 ⟨hb, hO⟩ => ?_
    subst hb
    subst hO
    exact q F' O' H' e1 w1 p
/-! ### letters -/
theorem scope_txts {sc : List Str} : scopeD (.tup (txts sc)) = true → sc.length ≤ 3 ∧ ∀ u ∈ sc, nameS u = true := fun h => by
  rw [scope_tup, Bool.and_eq_true, Bool.and_eq_true, decide_eq_true_eq] at h
  refine ⟨by simpa [txts] using h.1.1, fun u hu => ?_⟩
  exact List.all_eq_true.mp h.1.2 (.str u) (List.mem_map.mpr ⟨u, hu, rfl⟩)
theorem smallL_txts {sc : List Str} (h : scopeD (.tup (txts sc)) = true) : smallL (.tup (txts sc)) := ⟨⟨_, rfl⟩, fun l e x hx => by
  cases e
  obtain ⟨u, hu, rfl⟩ := List.mem_map.mp hx
  refine ⟨⟨_, rfl⟩, fun y e => ?_⟩
  cases e
  have := (scope_txts h).2 u hu
  unfold nameS at this
  simp only [Bool.and_eq_true, decide_eq_true_eq] at this
  exact Nat.le_of_lt (small1000 (by omega))⟩
def spLetters : Prm := fun xs O Pv => ∃ sc, xs = [.d (.tup (txts sc))] ∧ scopeD (.tup (txts sc)) = true ∧ Pv (.d (.tup (rowD (txts sc)))) O
/-! ### is_weave -/
def spWeave : Prm := fun xs O Pv => ∃ sc d c, xs = [.d (.tup (txts sc)), .d d] ∧ scopeD (.tup (txts sc)) = true ∧ cl c d = true ∧ c ≤ 64 ∧ Pv (.d (.bl (okW sc 60 d 400))) O
theorem ok_isw {k : Nat} (X : Txt K mg base a) (hk : ∀ F, Rp K F (.tup (txts kept)) (.ref a.o_KEPT)) (hS : KInts K w a.o_SHAPES shapes) (E_BadScope : ClsF K a.C_BadScope a.C_OrderError) : FnOk P w K mg base CX0 (k + 74) a.f_is_weave a.d_is_weave ["scope", "thing"] (spOf K (T a) spWeave) := by
  have G_need_scope := ok_need (P := P) (w := w) (k := k) X hk E_BadScope
  have G_nodes_at_most := ok_nodes (P := P) (w := w) (k := k) X hS 61
  refine FunT.ok (k := k + 73) X.F_is_weave sc_is_weave ?_ fun A outer s H E hr => ⟨_, (pss_cons (ps_expr (pe_call (G_need_scope) (hr.mono (by omega)) (by rfl) X.g_need_scope X.F_need_scope.kp X.b_need_scope .nil pass0 (pa_cons (pv 0) pa_nil))) (pss_one (ps_ret (pe_cmpR op_gt (pe_call (G_nodes_at_most) (hr.mono (by omega)) (by rfl) X.g_nodes_at_most X.F_nodes_at_most.kp X.b_nodes_at_most .nil pass0 (pa_cons (pv 0) (pa_cons (pv 1) (pa_cons (pe_globI (by rfl) X.g_MOST_DEEP.choose_spec) (pa_cons (pe_globI (by rfl) X.g_MOST_NODES.choose_spec) pa_nil))))) pe_int (nomark _))))), ?_⟩
  · rintro xs O Pv ⟨sc, d, c, rfl, _⟩
    rfl
  · rintro xs O Pv ⟨sc, d, c, rfl, hs, hcl, hc, p⟩
    repeat contradiction
    refine rs_drop (re_callF ?_)
    repeat contradiction
    refine ⟨[], O, .refl _, _, rfl, smallL_txts hs, hs, ?_⟩
    repeat contradiction
    refine re_callF ?_
    repeat contradiction
    obtain ⟨h3, hn⟩ := scope_txts hs
    refine ⟨[], O, .refl _, sc, d, 60, 400, c, rfl, by decide, by decide, h3, hn, hcl, hc, ?_⟩
    repeat contradiction
    have e : decide (nodesV sc 60 d 400 > 0) = okW sc 60 d 400 := by
      unfold nodesV
      cases h : okW sc 60 d 400 with
      | false => rw [if_neg Bool.false_ne_true]; rfl
      | true =>
        rw [if_pos rfl]
        refine decide_eq_true ?_
        have : 1 ≤ cnt 60 d := by rw [cnt]; omega
        omega
    rw [← e] at p
    exact p
def sxWeave : List Sl → Own → (Own → Prop) → Prop := fun xs O PX => ∃ d y, xs = [.d d, .d y] ∧ smallL d ∧ scopeD d = false ∧ PX O
theorem okx_isw {k : Nat} (X : Txt K mg base a) (hk : ∀ F, Rp K F (.tup (txts kept)) (.ref a.o_KEPT)) (hS : KInts K w a.o_SHAPES shapes) (E_BadScope : ClsF K a.C_BadScope a.C_OrderError) : FnOk P w K mg base (L2.CX P w) (k + 74) a.f_is_weave a.d_is_weave ["scope", "thing"] (spRaise K (T a) a.C_BadScope sxWeave) := by
  have G_need_scope := okx_need (P := P) (w := w) (k := k) X hk E_BadScope
  have G_nodes_at_most := ok_nodes (P := P) (w := w) (k := k) X hS 61
  refine FunT.okX (k := k + 73) X.F_is_weave sc_is_weave ?_ fun A outer s H E hr => ⟨_, (pss_cons (ps_expr (pe_callS (E := fun _ => E) G_need_scope (hr.mono (by omega)) (by rfl) X.g_need_scope X.F_need_scope.kp X.b_need_scope (fun σ => passAt (takes_of rfl rfl rfl rfl) σ) (pa_cons (pv 0) pa_nil))) (pss_one (ps_ret (pe_cmpR op_gt (pe_call (G_nodes_at_most) (hr.mono (by omega)) (by rfl) X.g_nodes_at_most X.F_nodes_at_most.kp X.b_nodes_at_most .nil pass0 (pa_cons (pv 0) (pa_cons (pv 1) (pa_cons (pe_globI (by rfl) X.g_MOST_DEEP.choose_spec) (pa_cons (pe_globI (by rfl) X.g_MOST_NODES.choose_spec) pa_nil))))) pe_int (nomark _))))), ?_⟩
  · rintro vs H Q E ⟨F, O, Ξ, xs, PX, wd, ra, ⟨d, y, rfl, _⟩, _⟩
    exact ra.length
  · rintro vs Q ⟨F, O, Ξ, xs, PX, wd, ra, ⟨d, y, rfl, hs, hd, p⟩, q⟩
    have he := env_start (N := ["scope", "thing"]) ra
    have run : RunXE K (T a) a.C_BadScope (fun E => tCallS (spRaise K (T a) a.C_BadScope sxNeed) (fun _ => E) (tCons (tVar 0) tNil)) (startR 2 [.d d, .d y]) O PX := by
      refine rx_call ?_
      repeat contradiction
      exact ⟨hs, hd, p⟩
    exact run F H Ξ _ wd he E _ q
end K0
end
section
set_option Elab.async false
set_option linter.all false
set_option maxRecDepth 100000
set_option maxHeartbeats 2000000
/-! The order of trees of texts and tuples, by rows of numbers. -/
namespace Al
open PySem PySem.Spec PyProof.Rows L2
mutual
def stD : D → Bool
  | .str _ => true
  | .tup l => stL l
  | _ => false
def stL : List D → Bool
  | [] => true
  | d :: l => stD d && stL l
end
def codeS : List Nat → List Int
  | [] => [0]
  | c :: l => 1 :: (c : Int) :: codeS l
mutual
def code : D → List Int
  | .str x => codeS x.cps.toList
  | .tup l => codeL l
  | _ => []
def codeL : List D → List Int
  | [] => [0]
  | d :: l => 1 :: (code d ++ codeL l)
end
theorem lex_same (x : Int) (r s : List Int) : HT.lexLt (x :: r) (x :: s) = HT.lexLt r s := by rw [HT.lexLt_cons, if_pos rfl]
theorem lex_ne {x y : Int} (r s : List Int) (h : x ≠ y) : HT.lexLt (x :: r) (y :: s) = decide (x < y) := by rw [HT.lexLt_cons, if_neg h]
theorem codeS_lt : ∀ (a b : List Nat), a ≠ b → ∀ r s, HT.lexLt (codeS a ++ r) (codeS b ++ s) = decide (a < b)
  | [], [], h, _, _ => absurd rfl h
  | [], y :: b, _, r, s => by
    show HT.lexLt (0 :: r) (1 :: _) = _
    rw [lex_ne _ _ (by decide)]
    simp
  | x :: a, [], _, r, s => by
    show HT.lexLt (1 :: _) (0 :: s) = _
    rw [lex_ne _ _ (by decide)]
    simp
  | x :: a, y :: b, h, r, s => by
    show HT.lexLt (1 :: (x : Int) :: (codeS a ++ r)) (1 :: (y : Int) :: (codeS b ++ s)) = _
    rw [lex_same]
    by_cases e : x = y
    · subst e
      rw [lex_same, codeS_lt a b (fun z => h (by rw [z])) r s]
      simp [List.cons_lt_cons_iff]
    · rw [lex_ne _ _ (by omega)]
      have : ((x :: a) < (y :: b)) ↔ x < y := by
        rw [List.cons_lt_cons_iff]
        constructor
        · rintro (q | ⟨q, _⟩)
          · exact q
          · exact absurd q e
        · exact .inl
      by_cases q : x < y
      · rw [decide_eq_true (this.mpr q), decide_eq_true (by omega)]
      · rw [decide_eq_false (fun z => q (this.mp z)), decide_eq_false (by omega)]
theorem str_ne {x y : Str} (h : (x == y) = false) : x.cps.toList ≠ y.cps.toList := fun e => by
  have e2 : x.cps = y.cps := Array.toList_inj.mp e
  have : x = y := by cases x; cases y; simp_all
  rw [this] at h
  simp at h
mutual
theorem eq_st : ∀ (x y : D), stD x = true → eqD x y = true → x = y
  | .str x, .str y, _, h => by rw [eqD] at h; rw [eq_of_beq h]
  | .tup l, .tup m, hs, h => by
    rw [stD] at hs
    rw [eqD] at h
    rw [eq_stL l m hs h]
  | .str x, .non, _, h => by simp [eqD] at h
  | .str x, .bl _, _, h => by simp [eqD] at h
  | .str x, .int _, _, h => by simp [eqD] at h
  | .str x, .tup _, _, h => by simp [eqD] at h
  | .str x, .lst _, _, h => by simp [eqD] at h
  | .str x, .dic, _, h => by simp [eqD] at h
  | .str x, .raw _, _, h => by simp [eqD] at h
  | .str x, .scr _, _, h => by simp [eqD] at h
  | .tup x, .non, _, h => by simp [eqD] at h
  | .tup x, .bl _, _, h => by simp [eqD] at h
  | .tup x, .int _, _, h => by simp [eqD] at h
  | .tup x, .str _, _, h => by simp [eqD] at h
  | .tup x, .lst _, _, h => by simp [eqD] at h
  | .tup x, .dic, _, h => by simp [eqD] at h
  | .tup x, .raw _, _, h => by simp [eqD] at h
  | .tup x, .scr _, _, h => by simp [eqD] at h
  | .non, _, hs, _ => by simp [stD] at hs
  | .bl _, _, hs, _ => by simp [stD] at hs
  | .int _, _, hs, _ => by simp [stD] at hs
  | .lst _, _, hs, _ => by simp [stD] at hs
  | .dic, _, hs, _ => by simp [stD] at hs
  | .raw _, _, hs, _ => by simp [stD] at hs
  | .scr _, _, hs, _ => by simp [stD] at hs
theorem eq_stL : ∀ (l m : List D), stL l = true → eqL l m = true → l = m
  | [], [], _, _ => rfl
  | [], _ :: _, _, h => by simp [eqL] at h
  | _ :: _, [], _, h => by simp [eqL] at h
  | x :: l, y :: m, hs, h => by
    rw [stL, Bool.and_eq_true] at hs
    rw [eqL, Bool.and_eq_true] at h
    rw [eq_st x y hs.1 h.1, eq_stL l m hs.2 h.2]
end
mutual
theorem eq_refl : ∀ (x : D), stD x = true → eqD x x = true
  | .str x, _ => by rw [eqD]; exact beq_self_eq_true x
  | .tup l, h => by rw [stD] at h; rw [eqD]; exact eq_reflL l h
  | .non, hs => by simp [stD] at hs
  | .bl _, hs => by simp [stD] at hs
  | .int _, hs => by simp [stD] at hs
  | .lst _, hs => by simp [stD] at hs
  | .dic, hs => by simp [stD] at hs
  | .raw _, hs => by simp [stD] at hs
  | .scr _, hs => by simp [stD] at hs
theorem eq_reflL : ∀ (l : List D), stL l = true → eqL l l = true
  | [], _ => by rw [eqL]
  | x :: l, h => by
    rw [stL, Bool.and_eq_true] at h
    rw [eqL, Bool.and_eq_true]
    exact ⟨eq_refl x h.1, eq_reflL l h.2⟩
end
mutual
theorem code_lt : ∀ (x y : D) (b : Bool), stD x = true → stD y = true → ltD x y = some b → eqD x y = false → ∀ r s, HT.lexLt (code x ++ r) (code y ++ s) = b
  | .str x, y, b, _, _, h, ne, r, s => by
    cases y with
    | str y =>
      rw [ltD] at h
      rw [eqD] at ne
      rw [code, code, codeS_lt _ _ (str_ne ne)]
      exact Option.some.inj h
    | _ => simp [ltD] at h
  | .tup l, y, b, hx, hy, h, ne, r, s => by
    cases y with
    | tup m =>
      rw [stD] at hx hy
      rw [ltD] at h
      rw [eqD] at ne
      rw [code, code]
      exact codeL_lt l m b hx hy h ne r s
    | _ => simp [ltD] at h
  | .non, _, _, hs, _, _, _, _, _ => by simp [stD] at hs
  | .bl _, _, _, hs, _, _, _, _, _ => by simp [stD] at hs
  | .int _, _, _, hs, _, _, _, _, _ => by simp [stD] at hs
  | .lst _, _, _, hs, _, _, _, _, _ => by simp [stD] at hs
  | .dic, _, _, hs, _, _, _, _, _ => by simp [stD] at hs
  | .raw _, _, _, hs, _, _, _, _, _ => by simp [stD] at hs
  | .scr _, _, _, hs, _, _, _, _, _ => by simp [stD] at hs
theorem codeL_lt : ∀ (l m : List D) (b : Bool), stL l = true → stL m = true → ltDs l m = some b → eqL l m = false → ∀ r s, HT.lexLt (codeL l ++ r) (codeL m ++ s) = b
  | [], [], _, _, _, _, ne, _, _ => by simp [eqL] at ne
  | [], y :: m, b, _, _, h, _, r, s => by
    rw [ltDs] at h
    rw [codeL, codeL]
    show HT.lexLt (0 :: r) (1 :: _) = _
    rw [lex_ne _ _ (by decide)]
    exact Option.some.inj h
  | x :: l, [], b, _, _, h, _, r, s => by
    rw [ltDs] at h
    rw [codeL, codeL]
    show HT.lexLt (1 :: _) (0 :: s) = _
    rw [lex_ne _ _ (by decide)]
    exact Option.some.inj h
  | x :: l, y :: m, b, hx, hy, h, ne, r, s => by
    rw [stL, Bool.and_eq_true] at hx hy
    rw [ltDs] at h
    rw [codeL, codeL]
    show HT.lexLt (1 :: (code x ++ codeL l ++ r)) (1 :: (code y ++ codeL m ++ s)) = _
    rw [lex_same, List.append_assoc, List.append_assoc]
    by_cases q : eqD x y = true
    · rw [if_pos q] at h
      have e := eq_st x y hx.1 q
      subst e
      rw [eqL, q, Bool.true_and] at ne
      have : ∀ p : List Int, ∀ u v, HT.lexLt (p ++ u) (p ++ v) = HT.lexLt u v := by
        intro p
        induction p with
        | nil => intro u v; rfl
        | cons a p ih => intro u v; rw [List.cons_append, List.cons_append, lex_same, ih]
      rw [this]
      exact codeL_lt l m b hx.2 hy.2 h ne r s
    · rw [if_neg q] at h
      exact code_lt x y b hx.1 hy.1 h (by simpa using q) _ _
end
mutual
theorem lt_eq : ∀ (x y : D), stD x = true → eqD x y = true → ltD x y = some false ∨ ltD x y = none
  | .str x, y, _, h => by
    have := eq_st _ _ rfl h
    subst this
    left
    rw [ltD]
    simp
  | .tup l, y, hs, h => by
    have := eq_st _ _ hs h
    subst this
    rw [stD] at hs
    left
    rw [ltD]
    exact ltDs_eq l hs
  | .non, _, hs, _ => by simp [stD] at hs
  | .bl _, _, hs, _ => by simp [stD] at hs
  | .int _, _, hs, _ => by simp [stD] at hs
  | .lst _, _, hs, _ => by simp [stD] at hs
  | .dic, _, hs, _ => by simp [stD] at hs
  | .raw _, _, hs, _ => by simp [stD] at hs
  | .scr _, _, hs, _ => by simp [stD] at hs
theorem ltDs_eq : ∀ (l : List D), stL l = true → ltDs l l = some false
  | [], _ => by rw [ltDs]
  | x :: l, h => by
    rw [stL, Bool.and_eq_true] at h
    rw [ltDs, if_pos (eq_refl x h.1)]
    exact ltDs_eq l h.2
end
/-- < of comparable trees is that of their rows -/
theorem lt_code {x y : D} {b : Bool} (hx : stD x = true) (hy : stD y = true) (h : ltD x y = some b) : HT.lexLt (code x) (code y) = b := by
  cases q : eqD x y with
  | false =>
    have := code_lt x y b hx hy h q [] []
    rwa [List.append_nil, List.append_nil] at this
  | true =>
    have e := eq_st x y hx q
    subst e
    rcases lt_eq x x hx q with z | z
    · rw [z] at h
      cases h
      exact (NtL.swo_lexL (fun x : D => code x)).refl x
    · rw [z] at h; cases h
/-- two comparable trees neither of which is less are one -/
theorem lt_anti {x y : D} (hx : stD x = true) (hy : stD y = true) (h1 : ltD x y = some false) (h2 : ltD y x = some false) : eqD x y = true := by
  cases q : eqD x y with
  | true => rfl
  | false =>
    exfalso
    have q2 : eqD y x = false := by
      cases z : eqD y x with
      | false => rfl
      | true => have := eq_st y x hy z; subst this; rw [z] at q; cases q
    have a := lt_code hx hy h1
    have c := lt_code hy hx h2
    -- rows of unlike trees differ: one of the two is less
    have tot : ∀ (n : Nat) (u v : List Int), u.length + v.length ≤ n → HT.lexLt u v = false → HT.lexLt v u = false → u = v := by
      intro n
      induction n with
      | zero =>
        intro u v hl _ _
        cases u <;> cases v <;> simp_all
      | succ n ih =>
        intro u v hl h1 h2
        cases u with
        | nil => cases v with
          | nil => rfl
          | cons y v => rw [HT.lexLt_nil_cons] at h1; cases h1
        | cons x u => cases v with
          | nil => rw [HT.lexLt_nil_cons] at h2; cases h2
          | cons y v =>
            by_cases e : x = y
            · subst e
              rw [lex_same] at h1 h2
              rw [ih u v (by simp only [List.length_cons] at hl; omega) h1 h2]
            · rw [lex_ne _ _ e] at h1
              rw [lex_ne _ _ (Ne.symm e)] at h2
              have a := of_decide_eq_false h1
              have b := of_decide_eq_false h2
              omega
    have e := tot _ _ _ (Nat.le_refl _) a c
    have s1 := code_lt x y false hx hy h1 q [0] [1]
    rw [e] at s1
    have : ∀ p : List Int, HT.lexLt (p ++ [0]) (p ++ [1]) = true := by
      intro p
      induction p with
      | nil => rfl
      | cons a p ih => rw [List.cons_append, List.cons_append, lex_same, ih]
    rw [this] at s1
    cases s1
end Al
end
section
set_option Elab.async false
set_option linter.all false
set_option maxRecDepth 100000
set_option maxHeartbeats 4000000
/-! sorted of a list, or tuple, of trees of texts and tuples. -/
namespace Al
open PySem PySem.Spec PyProof.Rows PySem.SeqAt
section
variable {prog : Program} {w : World} {A : Around} {s : Shared}
theorem dep_cons {x : PyData} {xs : List PyData} : PyData.depthAll (x :: xs) = max x.depth (PyData.depthAll xs) := by rw [PyData.depthAll]
/-- the places behind the first one -/
theorem kat_rest (hu : A.units + 64 < cLine) : ∀ (xs ys : List PyData) (vs ws : List Value) (as bs : List Addr) (i : Nat) (k : Bool), ReadsAll s.heap vs xs as → ReadsAll s.heap ws ys bs → PyData.plainAll xs = true → PyData.plainAll ys = true → PyData.depthAll xs ≤ 64 →
    ltPs xs ys = some k → PySem.W.KatLex prog w A true (decide (vs.length < ws.length)) (fun r s' => s' = s ∧ r = k) (vs.zip ws) (i + 1) s
  | [], ys, vs, ws, as, bs, i, k, ra, rb, _, _, _, h => by
    cases ra
    cases rb with
    | nil => rw [ltPs] at h; cases h; exact PySem.W.kat_nil ⟨rfl, rfl⟩
    | cons r rs =>
      rw [ltPs] at h
      cases h
      exact PySem.W.kat_nil ⟨rfl, by simp⟩
  | x :: xs, [], vs, ws, as, bs, i, k, ra, rb, _, _, _, h => by
    cases rb
    cases ra with
    | cons r rs =>
      rw [ltPs] at h
      cases h
      exact PySem.W.kat_nil ⟨rfl, by simp⟩
  | x :: xs, y :: ys, vs, ws, as, bs, i, k, ra, rb, ha, hb, hd, h => by
    cases ra with
    | cons r rs =>
      cases rb with
      | cons r' rs' =>
        rename_i v vs' _ _ u ws' _ _
        have d1 : x.depth ≤ 64 := by rw [dep_cons] at hd; omega
        have d2 : PyData.depthAll xs ≤ 64 := by rw [dep_cons] at hd; omega
        rw [ltPs] at h
        refine PySem.W.kat_cons (eqAt_plain x y A s v u _ _ r r' (plain_cons ha).1 (plain_cons hb).1 (by omega) prog w _ _ ?_)
        refine PySem.W.kat_go (fun e => ?_) (fun e => ?_)
        · rw [if_pos e] at h
          have ih := kat_rest hu xs ys vs' ws' _ _ (i + 1) k rs rs' (plain_cons ha).2 (plain_cons hb).2 d2 h
          have e2 : decide ((v :: vs').length < (u :: ws').length) = decide (vs'.length < ws'.length) := by simp
          rw [e2]
          exact PySem.W.kat_yes ih
        · rw [if_neg (by rw [e]; exact Bool.false_ne_true)] at h
          refine PySem.W.kat_no ?_
          show wpAny (model prog w) A (oneLt' false v u) _ _ s
          exact PySem.W.kat_one _ _ (rcLt_P x y A s v u _ _ k r r' (plain_cons ha).1 (plain_cons hb).1 h (by omega) prog w _ _ ⟨rfl, rfl⟩)
/-- two tuples that begin with texts -/
theorem kat_tree (hu : A.units + 64 < cLine) {a b : Value} {x y : Str} {xs ys : List PyData} {as bs : List Addr} {k : Bool} (ra : Reads s.heap a (.tuple (.str x :: xs)) as) (rb : Reads s.heap b (.tuple (.str y :: ys)) bs) (ha : PyData.plainAll xs = true) (hb : PyData.plainAll ys = true)
    (hd : PyData.depthAll xs ≤ 64) (h : ltP (.tuple (.str x :: xs)) (.tuple (.str y :: ys)) = some k) : wpAny (model prog w) A (keyLt' (tuples' true) a b) (fun r s' => s' = s ∧ r = k) (fun _ _ => False) s := by
  cases ra with
  | @tuple l o vs n _ as₁ h1 h2 h3 h4 =>
    cases rb with
    | @tuple l' o' vs' n' _ bs₁ k1 k2 k3 k4 =>
      refine PySem.W.kat_lt h1 h3 k1 k3 ?_
      rw [ltP] at h
      generalize e1 : vs.toList = us at h4 ⊢
      generalize e2 : vs'.toList = us' at k4 ⊢
      have f1 : decide (vs.size < vs'.size) = decide (us.length < us'.length) := by rw [← e1, ← e2]; simp
      rw [f1]
      cases h4 with
      | cons r rs =>
        cases k4 with
        | cons r' rs' =>
          cases r
          cases r'
          rw [ltPs] at h
          refine PySem.W.kat_cons (eqAt_plain (.str x) (.str y) A s _ _ _ _ (.str x _) (.str y _) rfl rfl (by simp [PyData.depth]; omega) prog w _ _ ?_)
          refine PySem.W.kat_go (fun e => ?_) (fun e => ?_)
          · rw [if_pos e] at h
            refine PySem.W.kat_yes ?_
            rw [List.length_cons, List.length_cons, show ∀ a b : Nat, decide (a + 1 < b + 1) = decide (a < b) from fun a b => by simp]
            exact kat_rest (prog := prog) (w := w) hu xs ys _ _ _ _ 0 k rs rs' ha hb hd h
          · rw [if_neg (by rw [e]; exact Bool.false_ne_true), ltP] at h
            refine PySem.W.kat_no ?_
            exact oneLt_any_str ⟨rfl, Option.some.inj h⟩
end
/-- what a value reads as, where it reads as plain data -/
noncomputable def keyOf (h : Heap) (v : Value) : PyData := @Classical.epsilon PyData ⟨.none⟩ fun d => d.canLay0 = true ∧ ∃ as, Reads h v d as
theorem key_is {h : Heap} {v : Value} {d : PyData} {as : List Addr} (hd : d.canLay0 = true) (r : Reads h v d as) : keyOf h v = d := by
  have e : ∃ d : PyData, d.canLay0 = true ∧ ∃ as, Reads h v d as := ⟨d, hd, as, r⟩
  obtain ⟨_, as', r'⟩ := @Classical.epsilon_spec_aux PyData ⟨.none⟩ _ e
  exact (Reads.unique _ _ _ _ _ hd r r').symm
mutual
def di : PyData → D
  | .str x => .str x
  | .tuple l => .tup (diL l)
  | _ => .non
def diL : List PyData → List D
  | [] => []
  | x :: l => di x :: diL l
end
mutual
theorem di_pd : ∀ (x : D), stD x = true → di (pd x) = x
  | .str x, _ => by rw [pd, di]
  | .tup l, h => by rw [stD] at h; rw [pd, di, di_pdL l h]
  | .non, hs => by simp [stD] at hs
  | .bl _, hs => by simp [stD] at hs
  | .int _, hs => by simp [stD] at hs
  | .lst _, hs => by simp [stD] at hs
  | .dic, hs => by simp [stD] at hs
  | .raw _, hs => by simp [stD] at hs
  | .scr _, hs => by simp [stD] at hs
theorem di_pdL : ∀ (l : List D), stL l = true → diL (pdL l) = l
  | [], _ => by rw [pdL, diL]
  | x :: l, h => by
    rw [stL, Bool.and_eq_true] at h
    rw [pdL, diL, di_pd x h.1, di_pdL l h.2]
end
/-- a tree that begins with a text -/
structure TreeOk (d : D) : Prop where
  st : stD d = true
  pl : plain 64 d = true
  hd : ∃ u r, d = .tup (.str u :: r)
section
variable {prog : Program} {w : World} {A : Around} {s : Shared}
/-- the order of the values -/
noncomputable def ltKey (h : Heap) (v u : Value) : Bool := HT.lexLt (code (di (keyOf h v))) (code (di (keyOf h u)))
theorem swo_key (h : Heap) : SrtO.Swo (ltKey h) := NtL.swo_lexL fun v => code (di (keyOf h v))
theorem heads_of {h : Heap} : ∀ (vs : List Value), (∀ v ∈ vs, ∃ u r as, Reads h v (.tuple (.str u :: r)) as) → ∃ fs : List Value, PySem.W.KatTups h vs fs ∧ fs.length = vs.length ∧ ∀ f ∈ fs, ∃ x t, f = Value.str x t
  | [], _ => ⟨[], PySem.W.KatTups.nil, rfl, fun _ hm => nomatch hm⟩
  | v :: vs, hp => by
    obtain ⟨fs, h1, h2, h3⟩ := heads_of vs fun x hx => hp x (.tail _ hx)
    obtain ⟨u, r, as, rd⟩ := hp v (.head _)
    cases rd with
    | @tuple l o its n _ as₁ a1 a2 a3 a4 =>
      generalize e1 : its.toList = us at a4
      cases a4 with
      | cons q qs =>
        cases q
        rename_i t
        have e0 : its[0]? = some (.str u t) := by rw [← Array.getElem?_toList, e1]; rfl
        refine ⟨.str u t :: fs, PySem.W.KatTups.cons a1 a2 a3 e0 h1, by simp [h2], fun f hf => ?_⟩
        rcases List.mem_cons.mp hf with rfl | hf
        · exact ⟨u, t, rfl⟩
        · exact h3 f hf
theorem trees_sortable {a : Addr} {vs : List Value} {h0 : Heap} {l : List D} (hu : A.units + 64 < cLine) (h2 : 2 ≤ vs.length) (keep : ∀ b o, h0.get? b = some o → b ≠ a ∧ s.heap.get? b = some o) (rd : ∀ v ∈ vs, ∃ d ∈ l, ∃ as, Reads h0 v (pd d) as) (ok : ∀ d ∈ l, TreeOk d)
    (cmp : ∀ x ∈ l, ∀ y ∈ l, ∃ b, ltD x y = some b) : SrtO.SortableO prog w A s a vs (ltKey h0) := by
  intro h' keep'
  have kk : ∀ b o, h0.get? b = some o → h'.get? b = some o := fun b o e => keep' b o (keep b o e).1 (keep b o e).2
  have rd' : ∀ v ∈ vs, ∃ d ∈ l, ∃ as, Reads h' v (pd d) as := fun v hv => (rd v hv).elim fun d hd => ⟨d, hd.1, hd.2.elim fun as r => ⟨as, PyProof.Rows.Reads.keeps kk r⟩⟩
  have heads : ∀ v ∈ vs, ∃ u r as, Reads h' v (.tuple (.str u :: r)) as := fun v hv => by
    obtain ⟨d, hd, as, r⟩ := rd' v hv
    obtain ⟨u, q, e⟩ := (ok d hd).hd
    subst e
    rw [pd, pdL, pd] at r
    exact ⟨u, _, as, r⟩
  obtain ⟨fs, k1, k2, k3⟩ := heads_of vs heads
  refine ⟨tuples' true, fun Q E hq => ?_, ?_⟩
  · refine PySem.W.kat_kind (T := .type "str") k1 (by omega) (fun f hm => ?_) (by rfl) ?_
    · obtain ⟨x, t, rfl⟩ := k3 f hm
      exact PySem.W.Looks.now
    · have e : (Value.type "str" != Value.type "tuple") = true := by first | decide +kernel | rfl | decide
      rw [e]
      exact hq
  · intro p q hp hq
    obtain ⟨x, hx, as, rx⟩ := rd p.1 hp
    obtain ⟨y, hy, bs, ry⟩ := rd q.1 hq
    obtain ⟨ox, px, ux, qx, ex⟩ := ok x hx
    obtain ⟨oy, py, uy, qy, ey⟩ := ok y hy
    obtain ⟨b, hb⟩ := cmp x hx y hy
    have c1 : keyOf h0 p.1 = pd x := key_is (canLay_pd 64 x px).1 rx
    have c2 : keyOf h0 q.1 = pd y := key_is (canLay_pd 64 y py).1 ry
    have lt : SrtO.lt2 (ltKey h0) p q = b := by
      show ltKey h0 p.1 q.1 = b
      unfold ltKey
      rw [c1, c2, di_pd x ox, di_pd y oy]
      exact lt_code ox oy hb
    rw [lt]
    have hp2 := ltP_pd 64 64 x y b px py hb
    have r1 := PyProof.Rows.Reads.keeps kk rx
    have r2 := PyProof.Rows.Reads.keeps kk ry
    have p1 := plain_pd 64 x px
    have p2 := plain_pd 64 y py
    have d1 := (canLay_pd 64 x px).2
    rw [ex, pd, pdL, pd] at r1 hp2 p1 d1
    rw [ey, pd, pdL, pd] at r2 hp2 p2
    have p1 : PyData.plainAll (.str ux :: pdL qx) = true := by simpa [PyData.plain] using p1
    have p2 : PyData.plainAll (.str uy :: pdL qy) = true := by simpa [PyData.plain] using p2
    refine kat_tree (s := { s with heap := h' }) hu r1 r2 (plain_cons p1).2 (plain_cons p2).2 ?_ hp2
    rw [PyData.depth, dep_cons] at d1
    omega
/-- sorted(it), it a list or a tuple -/
theorem sorted_seq {E : Value → Shared → Prop} {it : Addr} {T : String} {o : Obj} {vs : List Value} {n : Nat} {ltv : Value → Value → Bool} {Q : Value → Shared → Prop} (O : SrtO.Swo ltv) (hT : T = "list" ∨ T = "tuple") (ho : s.heap.get? it = some o) (hc : o.cls = .type T) (hd : o.data = .seq vs.toArray n) (hz : vs.length ≤ sizeLine)
    (hS : 2 ≤ vs.length → ∀ (h₁ : Heap) (a : Addr), (∀ b o, s.heap.get? b = some o → b ≠ a ∧ h₁.get? b = some o) → SrtO.SortableO prog w A.in1.in1 { s with heap := h₁ } a vs ltv)
    (h : ∀ (out : List Value) (p : Addr) (g : Heap) (e : Nat), SrtO.Srtd ltv out → SrtO.Stb ltv out vs → (∀ b o, s.heap.get? b = some o → g.get? b = some o) → s.heap.get? p = none → g.get? p = some (seqObj "list" out.toArray e) → Q (.ref p) { s with heap := g }) :
    wpAny (model prog w) A (call (.builtin "sorted") [.ref it]) Q E s := by
  apply Calls.call_function_entry kind_sorted plain_sorted entry_sorted (args_sorted1 _)
  unfold Builtin.«sorted»
  apply wpAny_bind (m := checkCount "sorted" 1 1 _)
  apply wpAny_pure
  apply wpAny_bind
  refine wpAny_collect_seq it hT ho hc hd (fun g k => ?_) (by rw [List.size_toArray]; exact hz)
  dsimp only
  apply wpAny_bind
  refine wpAny_newList ?_ hz
  have new : (g.push (seqObj "list" vs.toArray 0)).get? g.objs.size = some (seqObj "list" vs.toArray 0) := Heap.get?_push_size _ rfl
  have k1 : ∀ b o, s.heap.get? b = some o → b ≠ g.objs.size ∧ (g.push (seqObj "list" vs.toArray 0)).get? b = some o := fun b o e => ⟨Nat.ne_of_lt (Heap.lt_size (k b o e)), Heap.get?_push_of_some _ (k b o e)⟩
  have ps : s.heap.get? g.objs.size = none := by
    cases q : s.heap.get? g.objs.size with
    | none => rfl
    | some o => exact absurd rfl (k1 _ o q).1
  apply wpAny_bind
  apply wpAny_holding
  refine wpAny_call_entry slot_list_sort ⟨_, new, rfl⟩ entry_list_sort (SrtO.list_sort_ord (s := { s with heap := g.push (seqObj "list" vs.toArray 0) }) O new hz (fun h2 => hS h2 _ _ k1) fun out o1 o2 => ⟨_, rfl, ?_⟩) (args_list_sort _)
  obtain ⟨e, he⟩ := sortedHeap_at (out := out.toArray) new
  refine wpAny_pure ⟨_, rfl, h out _ _ e o1 o2 (fun b o q => ?_) ps he⟩
  rw [sortedHeap_old (k1 b o q).1 (Heap.lt_size (k1 b o q).2)]
  exact (k1 b o q).2
end
end Al
end
section
set_option Elab.async false
set_option linter.all false
set_option maxRecDepth 100000
set_option maxHeartbeats 4000000
/-! sorted of trees, as rules. -/
namespace Al
open PySem PySem.Spec PyProof.Rows L2
variable {K : PySem.W.Frag} {T : List Addr}
def bk : Value → V
  | .ref a => .ref a
  | _ => .non
def rSortTree (K : PySem.W.Frag) : List V → Hp → VK → Prop := fun vs H Q => ∃ (a : Addr) (xs : List V) (l : List D), vs = [.ref a] ∧ (SqL K H a xs ∨ SqT K H a xs) ∧ DpAll K H xs (pdL l) ∧ (∀ d ∈ l, TreeOk d) ∧ (∀ x ∈ l, ∀ y ∈ l, ∃ b, ltD x y = some b) ∧
  ∀ (ps : List (V × D)) (p : Addr), ps.Perm (xs.zip l) → ps.Pairwise (fun x y => HT.lexLt (code y.2) (code x.2) = false) → H p = none → Q (.ref p) (upd H p (.lst (ps.map (·.1))))
theorem relV_ref {x : V} {a : Addr} (h : RelV x (.ref a)) : x = .ref a := by
  cases x with
  | ref b => cases (show Value.ref a = .ref b from h); rfl
  | non => exact absurd (show Value.ref a = .none from h) (fun z => nomatch z)
  | bl b => exact absurd (show Value.ref a = .bool b from h) (fun z => nomatch z)
  | ty n => exact absurd (show Value.ref a = .type n from h) (fun z => nomatch z)
  | int i => obtain ⟨t, e⟩ := (show ∃ t, Value.ref a = .int i t from h); cases e
  | str i => obtain ⟨t, e⟩ := (show ∃ t, Value.ref a = .str i t from h); cases e
  | byt i => obtain ⟨t, e⟩ := (show ∃ t, Value.ref a = .bytes i t from h); cases e
  | flt i => obtain ⟨t, e⟩ := (show ∃ t, Value.ref a = .float i t from h); cases e
theorem reads_zip {h : Heap} : ∀ (l : List D) (xs : List V) (us : List Value) (as : List Addr), Vals xs us → ReadsAll h us (pdL l) as → (∀ d ∈ l, TreeOk d) →
    us.map (fun u => (bk u, di (keyOf h u))) = xs.zip l ∧ (∀ v ∈ us, ∃ d ∈ l, ∃ as, Reads h v (pd d) as) ∧ ∀ v ∈ us, RelV (bk v) v
  | [], xs, us, as, r, ra, _ => by
    rw [pdL] at ra
    cases ra
    cases r
    exact ⟨rfl, (fun _ h => nomatch h), (fun _ h => nomatch h)⟩
  | d :: l, xs, us, as, r, ra, ok => by
    rw [pdL] at ra
    cases ra with
    | cons q qs =>
      cases r with
      | cons rx rs =>
        obtain ⟨h1, h2, h3⟩ := reads_zip l _ _ _ rs qs fun x hx => ok x (.tail _ hx)
        obtain ⟨o, pl, u, t, e⟩ := ok d (.head _)
        have hk := key_is (canLay_pd 64 d pl).1 q
        have hq := q
        rw [e, pd] at q
        cases q
        obtain rfl := relV_ref rx
        refine ⟨?_, fun v hv => ?_, fun v hv => ?_⟩
        · rw [List.map_cons, h1, hk, di_pd d o]
          rfl
        · rcases List.mem_cons.mp hv with rfl | hv
          · exact ⟨d, .head _, _, hq⟩
          · obtain ⟨x, hx, z⟩ := h2 v hv
            exact ⟨x, .tail _ hx, z⟩
        · rcases List.mem_cons.mp hv with rfl | hv
          · rfl
          · exact h3 v hv
theorem vals_bk : ∀ (us : List Value), (∀ v ∈ us, RelV (bk v) v) → Vals (us.map bk) us
  | [], _ => .nil
  | u :: us, h => .cons (h u (.head _)) (vals_bk us fun v hv => h v (.tail _ hv))
theorem call_sortTree {X : Cx} (hu : X.A.units + 70 < cLine) : CallR X (.builtin "sorted") (rSortTree X.K) := by
  rintro pins s σ H vs us Q J r ⟨a, xs, l, rfl, hs, hd, ok, cmp, q⟩
  rw [Vals.ref1 r]
  obtain ⟨its, rv, hz, T, o, n, hT, ho, hc, hdat⟩ : ∃ its : List Value, Vals xs its ∧ xs.length ≤ sizeLine ∧ ∃ (T : String) (o : Obj) (n : Nat), (T = "list" ∨ T = "tuple") ∧ s.heap.get? a = some o ∧ o.cls = .type T ∧ o.data = .seq its.toArray n := by
    rcases hs with hs | hs
    · obtain ⟨its, rv, ⟨o, n, e, hc, hd, _⟩, hz⟩ := J.list hs
      exact ⟨its, rv, hz, "list", o, n, .inl rfl, e, by first | exact hc | exact hd, by first | exact hc | exact hd | assumption⟩
    · obtain ⟨its, rv, ⟨o, e, hc, n, hd⟩, hz⟩ := J.tuple hs
      exact ⟨its, rv, hz, "tuple", o, n, .inr rfl, e, hc, hd⟩
  obtain ⟨as, ra⟩ := Dp.readsAll J (pdL l) xs its hd rv
  obtain ⟨z1, z2, z3⟩ := reads_zip l xs its as rv ra ok
  have hlen : its.length ≤ sizeLine := by rw [← rv.length]; exact hz
  refine sorted_seq (swo_key s.heap) hT ho hc hdat hlen (fun h2 g b k => trees_sortable (s := { s with heap := g }) (l := l) (by rw [units_in1, units_in1]; omega) h2 k z2 ok cmp) fun out p g e o1 o2 kk np hp => ?_
  have mem : ∀ v ∈ out, v ∈ its := fun v hv => o2.perm.mem_iff.mp hv
  have ev : (out.map fun u => (bk u, di (keyOf s.heap u))).map (·.1) = out.map bk := by rw [List.map_map]; rfl
  have done := q (out.map fun u => (bk u, di (keyOf s.heap u))) p (by rw [← z1]; exact o2.perm.map _) (List.pairwise_map.mpr o1) (J.hok.gone np)
  rw [ev] at done
  refine ⟨.ref p, upd H p (.lst (out.map bk)), J.laidN (t' := s.toks) kk np (J.hok.gone np) ⟨?_, out, e, vals_bk out fun v hv => z3 v (mem v hv), hp⟩, rfl, done⟩
  rw [List.length_map, o2.perm.length_eq]
  exact hlen
theorem call_sortTreeK {X : Cx} (h : X.K = K) (hu : X.A.units + 70 < cLine) : CallR X (.builtin "sorted") (rSortTree K) := by subst h; exact call_sortTree hu
theorem rpl_zip {F : Hp} : ∀ {l : List D} {vs : List V}, RpL K F l vs → ∀ p ∈ vs.zip l, Rp K F p.2 p.1
  | [], vs, h, p, hp => by rw [show vs = [] from h] at hp; cases hp
  | d :: l, vs, h, p, hp => by
    obtain ⟨v, r, rfl, h2, h3⟩ := h
    rcases List.mem_cons.mp hp with rfl | hp
    · exact h2
    · exact rpl_zip h3 p hp
theorem rpl_of {F : Hp} : ∀ (ps : List (V × D)), (∀ p ∈ ps, Rp K F p.2 p.1) → RpL K F (ps.map (·.2)) (ps.map (·.1))
  | [], _ => rfl
  | p :: ps, h => ⟨p.1, ps.map (·.1), rfl, h p (.head _), rpl_of ps fun q hq => h q (.tail _ hq)⟩
theorem rc_sortT {d : D} {l : List D} {O : Own} {P : PV} (hl : itemsOf d = some l) (ok : ∀ x ∈ l, TreeOk x) (cmp : ∀ x ∈ l, ∀ y ∈ l, ∃ b, ltD x y = some b)
    (p : ∀ l' : List D, l'.Perm l → l'.Pairwise (fun x y => HT.lexLt (code y) (code x) = false) → P (.d (.lst l')) O) : RunC K T (rSortTree K) [.d d] O P := fun F H Ξ vs w r Q q => by
  obtain ⟨v, rfl, rv⟩ := args1 r
  obtain ⟨a, xs, rfl, hx, hsq⟩ := seq_of hl rv
  have hs : SqL K H a xs ∨ SqT K H a xs := hsq.imp w.ex.seqL w.ex.seqT
  refine ⟨a, xs, l, rfl, hs, dp_ofL w.ex 64 l xs (plainL_of' fun x hx => (ok x hx).pl) hx, ok, cmp, fun ps b hp hs nb => ?_⟩
  have e : Ex F (upd F b (.lst (ps.map (·.1)))) := Ex.new (w.ex.back nb)
  have hm : ∀ x ∈ ps, Rp K F x.2 x.1 := fun x hx' => rpl_zip hx x (hp.mem_iff.mp hx')
  have pl : (ps.map (·.2)).Perm l := by
    have := hp.map (·.2)
    rwa [List.map_snd_zip (by rw [hx.length]; exact Nat.le_refl _)] at this
  exact q _ (.d (.lst (ps.map (·.2)))) _ O _ e (w.new nb) ⟨b, _, rfl, upd_same, RpL.mono e _ _ (rpl_of ps hm)⟩ (p _ pl (List.pairwise_map.mpr hs))
where
  plainL_of' {n : Nat} : ∀ {l : List D}, (∀ x ∈ l, plain n x = true) → plainL n l = true
  | [], _ => by rw [plainL]
  | x :: l, h => by
    rw [plainL, Bool.and_eq_true]
    exact ⟨h x List.mem_cons_self, plainL_of' fun y hy => h y (List.mem_cons_of_mem _ hy)⟩
end Al
end
section
set_option Elab.async false
set_option linter.all false
set_option maxRecDepth 100000
set_option maxHeartbeats 2000000
namespace Al
open PySem PySem.Spec PyProof.Rows L2
theorem room_u70 {k : Nat} {A : Around} (r : Room k A) : A.units + 70 < cLine := by have := r.un; omega
end Al
namespace K0
open PySem PySem.Spec PyProof.Rows L2 Al
variable {P : Program} {w : World} {K : PySem.W.Frag} {mg : Str → Option Value} {base : Heap} {a : Ad}
local macro_rules
  | `(tactic| contradiction) => `(tactic| first
    | with_reducible refine rs_seq ?_ | with_reducible refine rs_if ?_ | with_reducible refine rs_ret ?_ | with_reducible refine rt_and ?_ | with_reducible refine rt_or ?_ | with_reducible refine rt_not ?_ | with_reducible refine rt_test ?_ | with_reducible refine rt_B ?_ | with_reducible refine rs_asg ?_ | with_reducible refine rs_par ?_
    | with_reducible refine re_cb ?_ | with_reducible refine re_op ?_ | with_reducible refine re_if ?_ | with_reducible refine re_un ?_ | with_reducible refine ra_cons ?_ | with_reducible refine ra_nil ?_ | with_reducible refine re_int ?_ | with_reducible refine re_str ?_ | with_reducible refine re_bl ?_ | with_reducible refine re_non ?_ | with_reducible refine re_ty ?_ 
    | refine re_var rfl (fun z => by cases z) ?_ | with_reducible refine rr_b ?_ | with_reducible refine rr_i ?_ | with_reducible refine ru_i ?_
    | with_reducible refine rc_isi rfl (by first | exact (show kitB _ _ = some true by decide +kernel) | exact (show kitB _ _ = some false by decide +kernel)) ?_
    | with_reducible refine rc_len rfl ?_ | with_reducible refine rr_ix rfl atI_0 ?_ | with_reducible refine rr_ix rfl atI_1 ?_
    | with_reducible refine rr_eqF rfl ?_ | with_reducible refine rr_neF rfl ?_ | with_reducible refine rr_addI ?_ | with_reducible refine rc_abs ?_ | with_reducible refine rc_int ?_ | with_reducible refine rc_min ?_
    | refine ⟨_, rfl, ?_⟩ | rw [if_pos rfl] | rw [if_neg Bool.false_ne_true] | with_reducible refine rs_next ?_ | (with_reducible refine ift ?_ ?_; focus (simp; done)) | (with_reducible refine iff' ?_ ?_; focus (simp; done)) | dsimp only)



/-! ### the law's names -/
def cC : List Nat := ("bcdfghklmnprstvwxz" : Str).cps.toList
def cV : List Nat := ("aeiou" : Str).cps.toList
def st1 (c v : Nat) : Str := (⟨#[c]⟩ : Str) ++ ⟨#[v]⟩
def stemsOf (l : List Nat) : List Str := l.flatMap fun c => cV.map fun v => st1 c v
def stems : List Str := stemsOf cC
def sufs : List Str := ["q", "k", "x", "mu"]
theorem stems_len : stems.length = 90 := by decide +kernel
theorem stemsOf_len (l : List Nat) : (stemsOf l).length = 5 * l.length := by
  induction l with
  | nil => rfl
  | cons c l ih =>
    unfold stemsOf at ih ⊢
    rw [List.flatMap_cons, List.length_append, ih, List.length_map, List.length_cons]
    have : cV.length = 5 := by decide +kernel
    omega
theorem stemsOf_snoc (l : List Nat) (c : Nat) : stemsOf (l ++ [c]) = stemsOf l ++ cV.map fun v => st1 c v := by
  unfold stemsOf
  rw [List.flatMap_append]
  simp
structure NamesOk (l : List Str) : Prop where
  nd : l.Nodup
  nm : ∀ x ∈ l, nameS x = true
  nz : ∀ x ∈ l, (x == "zzzz") = false
theorem stem_two : ∀ a ∈ stems, a.cps.toList.length = 2 := by
  have : (stems.all fun a => a.cps.toList.length == 2) = true := by decide +kernel
  intro a ha
  exact eq_of_beq (List.all_eq_true.mp this a ha)
theorem stems_nd : stems.Nodup := by decide +kernel
theorem names_all : ∀ a ∈ stems, ∀ b ∈ sufs, nameS (a ++ b) = true := by
  have : (stems.all fun a => sufs.all fun b => nameS (a ++ b)) = true := by decide +kernel
  intro a ha b hb
  exact List.all_eq_true.mp (List.all_eq_true.mp this a ha) b hb
theorem names_nz : ∀ a ∈ stems, ∀ b ∈ sufs, (a ++ b == "zzzz") = false := by
  have : (stems.all fun a => sufs.all fun b => !(a ++ b == "zzzz")) = true := by decide +kernel
  intro a ha b hb
  have := List.all_eq_true.mp (List.all_eq_true.mp this a ha) b hb
  simpa using this
theorem stem_of {a b s t : Str} (ha : a ∈ stems) (hb : b ∈ stems) (h : a ++ s = b ++ t) : a = b := by
  have h1 := congrArg (fun x : Str => x.cps.toList.take 2) h
  have e : ∀ {u v : Str}, u ∈ stems → (u ++ v).cps.toList.take 2 = u.cps.toList := fun {u v} hu => by
    rw [show (u ++ v).cps = u.cps ++ v.cps from rfl, Array.toList_append, List.take_append_of_le_length (Nat.le_of_eq (stem_two u hu).symm), List.take_of_length_le (Nat.le_of_eq (stem_two u hu))]
  rw [e ha, e hb] at h1
  have : a.cps = b.cps := Array.toList_inj.mp h1
  cases a; cases b; simp_all
theorem names_zip : ∀ (ss sf : List Str), ss.Nodup → (∀ x ∈ ss, x ∈ stems) → (∀ x ∈ sf, x ∈ sufs) → NamesOk (List.zipWith (· ++ ·) ss sf) ∧ ∀ x ∈ List.zipWith (· ++ ·) ss sf, ∃ a ∈ ss, ∃ b, x = a ++ b
  | [], sf, _, _, _ => ⟨⟨by simp, by simp, by simp⟩, by simp⟩
  | _ :: _, [], _, _, _ => ⟨⟨by simp, by simp, by simp⟩, by simp⟩
  | a :: ss, b :: sf, hn, hs, hf => by
    rw [List.nodup_cons] at hn
    obtain ⟨ih, im⟩ := names_zip ss sf hn.2 (fun x hx => hs x (.tail _ hx)) fun x hx => hf x (.tail _ hx)
    rw [List.zipWith_cons_cons]
    refine ⟨⟨List.nodup_cons.mpr ⟨fun hm => ?_, ih.nd⟩, fun x hx => ?_, fun x hx => ?_⟩, fun x hx => ?_⟩
    · obtain ⟨c, hc, t, e⟩ := im _ hm
      exact hn.1 (by rw [stem_of (hs a (.head _)) (hs c (.tail _ hc)) e]; exact hc)
    · rcases List.mem_cons.mp hx with rfl | hx
      · exact names_all a (hs a (.head _)) b (hf b (.head _))
      · exact ih.nm x hx
    · rcases List.mem_cons.mp hx with rfl | hx
      · exact names_nz a (hs a (.head _)) b (hf b (.head _))
      · exact ih.nz x hx
    · rcases List.mem_cons.mp hx with rfl | hx
      · exact ⟨a, .head _, b, rfl⟩
      · obtain ⟨c, hc, t, e⟩ := im x hx
        exact ⟨c, .tail _ hc, t, e⟩
def sOf : D → Str
  | .str x => x
  | _ => ""
theorem perm_txts {l : List D} {ss : List Str} (h : l.Perm (txts ss)) : ∃ ys, l = txts ys ∧ ys.Perm ss := by
  refine ⟨l.map sOf, ?_, ?_⟩
  · have : ∀ m : List D, (∀ x ∈ m, ∃ u, x = D.str u) → m = txts (m.map sOf) := by
      intro m
      induction m with
      | nil => intro _; rfl
      | cons x m ih =>
        intro hm
        obtain ⟨u, rfl⟩ := hm x (.head _)
        show D.str u :: m = D.str u :: txts (m.map sOf)
        rw [← ih fun y hy => hm y (.tail _ hy)]
    refine this l fun x hx => ?_
    obtain ⟨u, _, rfl⟩ := List.mem_map.mp (h.mem_iff.mp hx)
    exact ⟨u, rfl⟩
  · have := h.map sOf
    have e : (txts ss).map sOf = ss := by
      unfold txts
      rw [List.map_map]
      exact List.map_id'' (fun _ => rfl) ss
    rwa [e] at this
def spNames : Prm := fun xs O Pv => ∃ d s, ∃ m : Nat, xs = [.o d, .d (.int (m : Int))] ∧ m ≤ 3 ∧ O = dOwn d s ∧ s.Ok ∧ s.turn + 200 ≤ 2 ^ 40 ∧ ∀ l s', NamesOk l → l.length = m → Dr.Ok s' → s'.turn ≤ s.turn + 100 → Pv (.d (.lst (txts l))) (dOwn d s')
theorem ok_names {k : Nat} (X : Txt K mg base a) : FnOk P w K mg base CX0 (k + 4) a.f_law_names a.d_law_names ["draw", "many"] (spOf K (T a) spNames) := by
  have G_law_pick := ok_pick (P := P) (w := w) (k := k) X
  have G_law_shuffled := ok_shuf (P := P) (w := w) (k := k) X
  refine X.F_law_names.ok sc_law_names ?_ fun A outer s H E hr => ⟨_, (pss_cons (ps_set (i := 2) sc_law_names.nd rfl (by first | exact .inl rfl | exact .inr rfl) (pe_lst pa_nil)) (pss_cons (ps_for PassesOwn.never rfl (pi_str pe_str) (pg_name (i := 3) sc_law_names.nd rfl (by first | exact .inl rfl | exact .inr rfl)) (pss_one (ps_set (i := 2) sc_law_names.nd rfl (by first | exact .inl rfl | exact .inr rfl) (pe_op (op_addAK (K := K) rfl) (pv 2) (pe_lc (own := [("other", 4)]) rfl sc_law_names.nd (pi_str pe_str) (blkOk_by (own := [("other", 4)]) (N := ["draw", "many", "some", "one", "other", "stem"]) (sc := defScope s_law_names) (by decide +kernel)) (fun _ _ _ _ _ => (pg_name (i := 4) sc_law_names.nd rfl (by first | exact .inl rfl | exact .inr rfl))) (fun _ _ _ _ _ => pts_nil) (fun _ _ _ _ _ => (pe_op (op_addAK (K := K) rfl) (pv 3) (pv 4)))))))) (pss_one (ps_ret (pe_lc (own := [("stem", 5)]) rfl sc_law_names.nd (Al.pi_seqK (K := K) rfl (pe_slice (sl_anyK (K := K) rfl) (pe_call (G_law_shuffled) (hr.mono (by omega)) (by rfl) X.g_law_shuffled X.F_law_shuffled.kp X.b_law_shuffled .nil pass0 (pa_cons (pv 0) (pa_cons (pv 2) pa_nil))) po_none (po_some (pv 1)))) (blkOk_by (own := [("stem", 5)]) (N := ["draw", "many", "some", "one", "other", "stem"]) (sc := defScope s_law_names) (by decide +kernel)) (fun _ _ _ _ _ => (pg_name (i := 5) sc_law_names.nd rfl (by first | exact .inl rfl | exact .inr rfl))) (fun _ _ _ _ _ => pts_nil) (fun _ _ _ _ _ => (pe_op (op_addAK (K := K) rfl) (pv 5) (pe_call (G_law_pick) (hr.mono (by omega)) (by rfl) X.g_law_pick X.F_law_pick.kp X.b_law_pick .nil pass0 (pa_cons (pv 0) (pa_cons (pe_lst (pa_cons pe_str (pa_cons pe_str (pa_cons pe_str (pa_cons pe_str pa_nil))))) pa_nil)))))))))), ?_⟩
  · rintro xs O Pv ⟨d, s, m, rfl, _⟩
    rfl
  · rintro xs O Pv ⟨d, s, m, rfl, hm, rfl, ok, ht, p⟩
    repeat contradiction
    refine re_lstD ?_
    repeat contradiction
    refine ⟨rfl, ?_⟩
    have lC : cC.length = 18 := by decide +kernel
    have lV : cV.length = 5 := by decide +kernel
    refine rs_seq (rs_for (ri_str ?_))
    repeat contradiction
    refine ⟨fun i ρ' O' => O' = dOwn d s ∧ ∃ u v w', ρ' = [.o d, .d (.int (m : Int)), .d (.lst (txts (stemsOf (cC.take i)))), u, v, w'], ⟨rfl, _, _, _, rfl⟩, ?_, ?_⟩
    · rintro ρ' O' ⟨rfl, u, v, w', rfl⟩
      have el : cC.take (Al.signs "bcdfghklmnprstvwxz").length = cC := List.take_of_length_le (by rw [show (Al.signs "bcdfghklmnprstvwxz").length = cC.length from by simp [Al.signs, cC]]; exact Nat.le_refl _)
      rw [el]
      show RunS K (T a) (tRet _) _ _ _
      refine rs_ret (re_lc (gin_name (by decide)) (ri_seq ?_))
      refine re_slL ?_
      refine re_callF ?_
      repeat contradiction
      refine ⟨dOwn d s, [], .refl _, d, s, _, txts stems, rfl, rfl, by rw [show (txts stems).length = stems.length from List.length_map ..]; rw [stems_len]; decide, rfl, ok, by rw [show (txts stems).length = stems.length from List.length_map ..]; rw [stems_len]; omega, fun l' s' hp ok' ht' => ?_⟩
      rw [show (txts stems).length = stems.length from List.length_map .., stems_len] at ht'
      obtain ⟨ss, rfl, hss⟩ := perm_txts hp
      have hsl : ss.length = 90 := by rw [hss.length_eq, stems_len]
      refine ro_none ?_
      refine ro_some ?_
      repeat contradiction
      rw [cut_to _ m (by rw [show (txts ss).length = ss.length from List.length_map ..]; omega)]
      refine ⟨_, _, rfl, rfl, fun (j : Nat) acc O2 => ∃ s2 sf, O2 = dOwn d s2 ∧ Dr.Ok s2 ∧ s2.turn ≤ s.turn + 90 + j ∧ sf.length = j ∧ (∀ x ∈ sf, x ∈ sufs) ∧ acc = txts (List.zipWith (· ++ ·) (ss.take j) sf) ∧ acc.length ≤ j,
        ⟨s', [], List.append_nil _, ok', by omega, rfl, (fun _ h => nomatch h), by simp [txts], Nat.le_refl _⟩, small1000 (by rw [List.length_take]; omega), ?_, ?_⟩
      · rintro acc O2 ⟨s2, sf, rfl, ok2, ht2, hl2, hf, rfl, _⟩
        have htl : ((txts ss).take m).length = m := by rw [List.length_take, show (txts ss).length = ss.length from List.length_map ..]; omega
        rw [htl] at ht2 hl2 ⊢
        have nd : (ss.take m).Nodup := (hss.nodup_iff.mpr stems_nd).sublist (List.take_sublist _ _)
        obtain ⟨no, _⟩ := names_zip (ss.take m) sf nd (fun x hx => hss.mem_iff.mp (List.mem_of_mem_take hx)) hf
        exact p _ s2 no (by rw [List.length_zipWith, List.length_take, hl2]; omega) ok2 (by omega)
      · rintro j dd acc O2 ⟨s2, sf, rfl, ok2, ht2, hl2, hf, rfl, hal⟩ hj
        obtain ⟨z, hz, rfl⟩ : ∃ z, (ss.take m)[j]? = some z ∧ dd = .str z := by
          have : ((ss.take m).map D.str)[j]? = some dd := by rw [List.map_take]; exact hj
          rw [List.getElem?_map] at this
          obtain ⟨z, h1, h2⟩ := Option.map_eq_some_iff.mp this
          exact ⟨z, h1, h2.symm⟩
        have hjm : j < m := by
          have := (List.getElem?_eq_some_iff.mp hz).1
          rw [List.length_take] at this
          omega
        have hz2 : ss[j]? = some z := by
          rw [List.getElem?_take] at hz
          rw [if_pos hjm] at hz
          exact hz
        have zs : z ∈ stems := hss.mem_iff.mp (List.mem_of_getElem? hz2)
        refine rg_name (rt_yes ?_)
        repeat contradiction
        refine re_callF ?_
        repeat contradiction
        refine re_lstD ?_
        repeat contradiction
        refine ⟨rfl, ?_⟩
        repeat contradiction
        refine ⟨dOwn d s2, [], .refl _, d, s2, _, txts sufs, rfl, rfl, by decide, by decide, rfl, ok2, by omega, fun x s3 hx ok3 ht3 => ?_⟩
        obtain ⟨b, hb, rfl⟩ := List.mem_map.mp hx
        have hbl : b.length ≤ 2 := by
          have : (sufs.all fun b => decide (b.length ≤ 2)) = true := by decide +kernel
          exact of_decide_eq_true (List.all_eq_true.mp this b hb)
        have hzl : z.length = 2 := by
          have := stem_two z zs
          show z.cps.size = 2
          rw [← this, Array.length_toList]
        refine rr_addS (Nat.le_of_lt (small1000 (by omega))) ?_
        refine ⟨_, rfl, hal, s3, sf ++ [b], List.append_nil _, ok3, by push_cast; omega, by rw [List.length_append, hl2]; rfl, ?_, ?_, by rw [List.length_append]; exact Nat.succ_le_succ hal⟩
        · intro x hx
          rcases List.mem_append.mp hx with hx | hx
          · exact hf x hx
          · rw [List.mem_singleton.mp hx]; exact hb
        · rw [List.take_add_one, hz2]
          show _ = txts (List.zipWith (· ++ ·) (ss.take j ++ [z]) (sf ++ [b]))
          rw [List.zipWith_append (by rw [List.length_take, hl2]; omega)]
          simp [txts]
    · rintro i dd ρ' O' ⟨rfl, u, v, w', rfl⟩ hi
      obtain ⟨c, hc, rfl⟩ : ∃ c, cC[i]? = some c ∧ dd = .str ⟨#[c]⟩ := by
        have : (cC.map fun c => D.str ⟨#[c]⟩)[i]? = some dd := hi
        rw [List.getElem?_map] at this
        obtain ⟨c, h1, h2⟩ := Option.map_eq_some_iff.mp this
        exact ⟨c, h1, h2.symm⟩
      have hil : i < 18 := by rw [← lC]; exact (List.getElem?_eq_some_iff.mp hc).1
      refine rg_name ?_
      repeat contradiction
      refine re_lc (gin_name (by decide)) (ri_str ?_)
      repeat contradiction
      refine ⟨fun (j : Nat) acc O2 => O2 = dOwn d s ∧ acc = txts ((cV.take j).map (st1 c)) ∧ acc.length ≤ j, ⟨rfl, rfl, Nat.le_refl _⟩, small1000 (by rw [show (Al.signs "aeiou").length = cV.length from by simp [Al.signs, cV], lV]; decide), ?_, ?_⟩
      · rintro acc O2 ⟨rfl, rfl, _⟩
        rw [show (Al.signs "aeiou").length = cV.length from by simp [Al.signs, cV], List.take_length]
        refine rr_addL (Nat.le_of_lt (small1000 ?_)) ?_
        · rw [show (txts (stemsOf (cC.take i))).length = (stemsOf (cC.take i)).length from List.length_map .., stemsOf_len, List.length_take]
          simp only [txts, List.length_map, lV]
          omega
        · refine ⟨rfl, .d (.str ⟨#[c]⟩), v, w', ?_⟩
          rw [List.take_add_one, hc]
          show _ = [_, _, Sl.d (.lst (txts (stemsOf (cC.take i ++ [c])))), _, _, _]
          rw [stemsOf_snoc]
          simp [txts]
      · rintro j dv acc O2 ⟨rfl, rfl, hal⟩ hj
        obtain ⟨c2, hc2, rfl⟩ : ∃ c2, cV[j]? = some c2 ∧ dv = .str ⟨#[c2]⟩ := by
          have : (cV.map fun c => D.str ⟨#[c]⟩)[j]? = some dv := hj
          rw [List.getElem?_map] at this
          obtain ⟨c, h1, h2⟩ := Option.map_eq_some_iff.mp this
          exact ⟨c, h1, h2.symm⟩
        refine rg_name (rt_yes ?_)
        repeat contradiction
        refine rr_addS (Nat.le_of_lt (small1000 (by show 1 + 1 ≤ 1000; decide))) ?_
        refine ⟨_, rfl, hal, rfl, ?_, by rw [List.length_append]; exact Nat.succ_le_succ hal⟩
        rw [List.take_add_one, hc2]
        simp [txts, st1]
end K0
end
section
set_option Elab.async false
set_option linter.all false
set_option maxRecDepth 100000
set_option maxHeartbeats 2000000
namespace K0
open PySem PySem.Spec PyProof.Rows L2 Al
variable {P : Program} {w : World} {K : PySem.W.Frag} {mg : Str → Option Value} {base : Heap} {a : Ad}
local macro_rules
  | `(tactic| contradiction) => `(tactic| first
    | with_reducible refine rs_seq ?_ | with_reducible refine rs_if ?_ | with_reducible refine rs_ret ?_ | with_reducible refine rt_and ?_ | with_reducible refine rt_or ?_ | with_reducible refine rt_not ?_ | with_reducible refine rt_test ?_ | with_reducible refine rt_B ?_ | with_reducible refine rs_asg ?_ | with_reducible refine rs_par ?_
    | with_reducible refine re_cb ?_ | with_reducible refine re_op ?_ | with_reducible refine re_if ?_ | with_reducible refine re_un ?_ | with_reducible refine ra_cons ?_ | with_reducible refine ra_nil ?_ | with_reducible refine re_int ?_ | with_reducible refine re_str ?_ | with_reducible refine re_bl ?_ | with_reducible refine re_non ?_ | with_reducible refine re_ty ?_ 
    | refine re_var rfl (fun z => by cases z) ?_ | with_reducible refine rr_b ?_ | with_reducible refine rr_i ?_ | with_reducible refine ru_i ?_
    | with_reducible refine rc_isi rfl (by first | exact (show kitB _ _ = some true by decide +kernel) | exact (show kitB _ _ = some false by decide +kernel)) ?_
    | with_reducible refine rc_len rfl ?_ | with_reducible refine rr_ix rfl atI_0 ?_ | with_reducible refine rr_ix rfl atI_1 ?_
    | with_reducible refine rr_eqF rfl ?_ | with_reducible refine rr_neF rfl ?_ | with_reducible refine rr_addI ?_ | with_reducible refine rc_abs ?_ | with_reducible refine rc_int ?_ | with_reducible refine rc_min ?_
    | refine ⟨_, rfl, ?_⟩ | rw [if_pos rfl] | rw [if_neg Bool.false_ne_true] | with_reducible refine rs_next ?_ | (with_reducible refine ift ?_ ?_; focus (simp; done)) | (with_reducible refine iff' ?_ ?_; focus (simp; done)) | dsimp only)



/-! ### once -/
def onceS (acc : List D) (x : D) : List D := match acc.getLast? with
  | none => acc ++ [x]
  | some y => if eqD y x = true then acc else acc ++ [x]
def onceD (l : List D) : List D := l.foldl onceS []
/-- sorted, as the law's sorted leaves it -/
def SrtD (l : List D) : Prop := l.Pairwise fun x y => HT.lexLt (code y) (code x) = false
structure Cmp2 (l : List D) : Prop where
  ok : ∀ x ∈ l, TreeOk x
  cmp : ∀ x ∈ l, ∀ y ∈ l, ∃ b, ltD x y = some b
theorem asc_snoc : ∀ (l : List D) (y x : D), ascD (l ++ [y]) = some true → ltD y x = some true → ascD (l ++ [y] ++ [x]) = some true
  | [], y, x, _, h => by
    show (match ltD y x with | some true => ascD [x] | some false => some false | none => none) = some true
    rw [h]
    rfl
  | [a], y, x, h1, h2 => by
    have h1 : (match ltD a y with | some true => ascD [y] | some false => some false | none => none) = some true := h1
    show (match ltD a y with | some true => ascD [y, x] | some false => some false | none => none) = some true
    cases q : ltD a y with
    | none => rw [q] at h1; cases h1
    | some b =>
      rw [q] at h1
      cases b with
      | false => cases h1
      | true =>
        show (match ltD y x with | some true => ascD [x] | some false => some false | none => none) = some true
        rw [h2]
        rfl
  | a :: b :: l, y, x, h1, h2 => by
    have h1 : (match ltD a b with | some true => ascD (b :: l ++ [y]) | some false => some false | none => none) = some true := h1
    show (match ltD a b with | some true => ascD (b :: l ++ [y] ++ [x]) | some false => some false | none => none) = some true
    cases q : ltD a b with
    | none => rw [q] at h1; cases h1
    | some c =>
      rw [q] at h1
      cases c with
      | false => cases h1
      | true => exact asc_snoc (b :: l) y x h1 h2
theorem last_snoc {acc : List D} {y : D} (h : acc.getLast? = some y) : ∃ m, acc = m ++ [y] := by
  obtain ⟨m, e⟩ := List.getLast?_eq_some_iff.mp h
  exact ⟨m, e⟩
theorem lt_true {x y : D} (ox : TreeOk x) (oy : TreeOk y) (h1 : ∃ b, ltD y x = some b) (h2 : ∃ b, ltD x y = some b) (hs : HT.lexLt (code x) (code y) = false) (ne : eqD y x = false) : ltD y x = some true := by
  obtain ⟨b, hb⟩ := h1
  obtain ⟨c, hc⟩ := h2
  have e := lt_code ox.st oy.st hc
  rw [hs] at e
  subst e
  cases b with
  | true => exact hb
  | false =>
    have := lt_anti oy.st ox.st hb hc
    rw [ne] at this
    cases this
structure OnceOk (l out : List D) : Prop where
  asc : ascD out = some true
  mem : ∀ x ∈ out, x ∈ l
  ne : l ≠ [] → out ≠ []
theorem once_ok {l : List D} (hs : SrtD l) (c : Cmp2 l) : OnceOk l (onceD l) := by
  have key : ∀ (r acc p : List D), l = p ++ r → ascD acc = some true → (∀ x ∈ acc, x ∈ p) → (p ≠ [] → acc ≠ []) → OnceOk l (r.foldl onceS acc) := by
    intro r
    induction r with
    | nil =>
      intro acc p e h1 h2 h3
      rw [List.append_nil] at e
      subst e
      exact ⟨h1, h2, h3⟩
    | cons x r ih =>
      intro acc p e h1 h2 h3
      rw [List.foldl_cons]
      have hx : x ∈ l := by rw [e]; simp
      have e2 : l = (p ++ [x]) ++ r := by rw [e]; simp
      cases q : acc.getLast? with
      | none =>
        have : acc = [] := List.getLast?_eq_none_iff.mp q
        subst this
        refine ih _ (p ++ [x]) e2 rfl (fun z hz => ?_) fun _ => by simp [onceS]
        have hz : z ∈ [x] := hz
        rw [List.mem_singleton.mp hz]
        simp
      | some y =>
        obtain ⟨m, rfl⟩ := last_snoc q
        have hy : y ∈ p := h2 y (by simp)
        have hyl : y ∈ l := by rw [e]; simp [hy]
        unfold onceS
        rw [q]
        dsimp only
        cases z : eqD y x with
        | true =>
          rw [if_pos rfl]
          exact ih _ (p ++ [x]) e2 h1 (fun u hu => List.mem_append_left _ (h2 u hu)) fun _ => by simp
        | false =>
          rw [if_neg Bool.false_ne_true]
          have hsx : HT.lexLt (code x) (code y) = false := by
            unfold SrtD at hs
            rw [e, List.pairwise_append] at hs
            exact hs.2.2 y hy x (.head _)
          have lt := lt_true (c.ok x hx) (c.ok y hyl) (c.cmp y hyl x hx) (c.cmp x hx y hyl) hsx z
          refine ih _ (p ++ [x]) e2 (asc_snoc m y x h1 lt) (fun u hu => ?_) fun _ => by simp
          rcases List.mem_append.mp hu with hu | hu
          · exact List.mem_append_left _ (h2 u hu)
          · rw [List.mem_singleton.mp hu]; simp
  exact key l [] [] rfl rfl (fun _ h => nomatch h) fun h => absurd rfl h
theorem asc_pair : ∀ (l : List D), Cmp2 l → ascD l = some true → SrtD l ∧ onceD l = l := by
  intro l c h
  have step : ∀ (x y : D) (r : List D), ascD (x :: y :: r) = some true → ltD x y = some true ∧ ascD (y :: r) = some true := by
    intro x y r h
    have h : (match ltD x y with | some true => ascD (y :: r) | some false => some false | none => none) = some true := h
    cases q : ltD x y with
    | none => rw [q] at h; cases h
    | some b =>
      rw [q] at h
      cases b with
      | false => cases h
      | true => exact ⟨rfl, h⟩
  have srt : ∀ (l : List D), Cmp2 l → ascD l = some true → l.Pairwise fun x y => HT.lexLt (code x) (code y) = true := by
    intro l
    induction l with
    | nil => intro _ _; exact .nil
    | cons x r ih =>
      intro c h
      have c' : Cmp2 r := ⟨fun z hz => c.ok z (.tail _ hz), fun u hu v hv => c.cmp u (.tail _ hu) v (.tail _ hv)⟩
      cases r with
      | nil => exact List.pairwise_singleton _ _
      | cons y r =>
        obtain ⟨h1, h2⟩ := step x y r h
        have ih := ih c' h2
        have lx := lt_code (c.ok x (.head _)).st (c.ok y (.tail _ (.head _))).st h1
        refine List.pairwise_cons.mpr ⟨fun z hz => ?_, ih⟩
        rcases List.mem_cons.mp hz with rfl | hz
        · exact lx
        · have yz := (List.pairwise_cons.mp ih).1 z hz
          exact (NtL.swo_lexL (fun x : D => code x)).ltle lx ((NtL.swo_lexL (fun x : D => code x)).asym _ _ yz)
  have s := srt l c h
  refine ⟨s.imp fun {x y} q => (NtL.swo_lexL (fun x : D => code x)).asym _ _ q, ?_⟩
  have key : ∀ (r p : List D), l = p ++ r → r.foldl onceS p = l := by
    intro r
    induction r with
    | nil => intro p e; rw [List.append_nil] at e; exact e.symm
    | cons x r ih =>
      intro p e
      have e2 : l = (p ++ [x]) ++ r := by rw [e]; simp
      rw [List.foldl_cons]
      have : onceS p x = p ++ [x] := by
        unfold onceS
        cases q : p.getLast? with
        | none => rfl
        | some y =>
          obtain ⟨m, rfl⟩ := last_snoc q
          have hy : y ∈ m ++ [y] := by simp
          have hyx : HT.lexLt (code y) (code x) = true := by
            rw [e, List.pairwise_append] at s
            exact s.2.2 y hy x (.head _)
          dsimp only
          rw [if_neg]
          intro z
          have := eq_st y x (c.ok y (by rw [e]; simp)).st z
          subst this
          rw [(NtL.swo_lexL (fun x : D => code x)).refl y] at hyx
          cases hyx
      rw [this]
      exact ih _ e2
  exact key l [] rfl
theorem srt_uniq : ∀ (l m : List D), Cmp2 l → l.Perm m → SrtD l → SrtD m → l = m
  | [], m, _, p, _, _ => (List.Perm.eq_nil p.symm).symm
  | x :: l, [], _, p, _, _ => absurd p.length_eq (by simp)
  | x :: l, y :: m, c, p, hl, hm => by
    have hx : x ∈ y :: m := p.mem_iff.mp (.head _)
    have hy : y ∈ x :: l := p.mem_iff.mpr (.head _)
    have a : HT.lexLt (code x) (code y) = false := by
      rcases List.mem_cons.mp hx with rfl | hx
      · exact (NtL.swo_lexL (fun x : D => code x)).refl x
      · exact (List.pairwise_cons.mp hm).1 x hx
    have b : HT.lexLt (code y) (code x) = false := by
      rcases List.mem_cons.mp hy with rfl | hy
      · exact (NtL.swo_lexL (fun x : D => code x)).refl y
      · exact (List.pairwise_cons.mp hl).1 y hy
    have e : x = y := by
      obtain ⟨u, hu⟩ := c.cmp x (.head _) y hy
      obtain ⟨v, hv⟩ := c.cmp y hy x (.head _)
      have e1 := lt_code (c.ok x (.head _)).st (c.ok y hy).st hu
      have e2 := lt_code (c.ok y hy).st (c.ok x (.head _)).st hv
      rw [a] at e1
      rw [b] at e2
      subst e1 e2
      exact eq_st x y (c.ok x (.head _)).st (lt_anti (c.ok x (.head _)).st (c.ok y hy).st hu hv)
    subst e
    rw [srt_uniq l m ⟨fun z hz => c.ok z (.tail _ hz), fun u hu v hv => c.cmp u (.tail _ hu) v (.tail _ hv)⟩ p.cons_inv (List.pairwise_cons.mp hl).2 (List.pairwise_cons.mp hm).2]
def OnceOf (l out : List D) : Prop := ∃ l', l'.Perm l ∧ SrtD l' ∧ out = onceD l'
theorem Cmp2.perm {l m : List D} (c : Cmp2 l) (p : m.Perm l) : Cmp2 m := ⟨fun x hx => c.ok x (p.mem_iff.mp hx), fun x hx y hy => c.cmp x (p.mem_iff.mp hx) y (p.mem_iff.mp hy)⟩
theorem once_of {l out : List D} (c : Cmp2 l) (h : OnceOf l out) : OnceOk l out := by
  obtain ⟨l', p, s, rfl⟩ := h
  obtain ⟨a, b, d⟩ := once_ok s (c.perm p)
  exact ⟨a, fun x hx => p.mem_iff.mp (b x hx), fun n => d fun z => n (by rw [z] at p; exact List.Perm.eq_nil p.symm)⟩
theorem stL_of : ∀ {l : List D}, (∀ x ∈ l, TreeOk x) → stL l = true
  | [], _ => by rw [stL]
  | x :: l, h => by rw [stL, Bool.and_eq_true]; exact ⟨(h x (.head _)).st, stL_of fun y hy => h y (.tail _ hy)⟩
/-- parts are what once makes of them just if they ascend -/
theorem once_eq {l out : List D} (c : Cmp2 l) (h : OnceOf l out) : eqL l out = decide (ascD l = some true) := by
  by_cases q : ascD l = some true
  · rw [decide_eq_true q]
    obtain ⟨l', p, s, rfl⟩ := h
    obtain ⟨s1, o1⟩ := asc_pair l c q
    have e := srt_uniq l l' c p.symm s1 s
    subst e
    rw [o1]
    exact eq_reflL l (stL_of c.ok)
  · rw [decide_eq_false q]
    cases z : eqL l out with
    | false => rfl
    | true =>
      have e := eq_stL l out (stL_of c.ok) z
      exact absurd (by rw [e]; exact (once_of c h).asc) q
def spOnce : Prm := fun xs O Pv => ∃ d l, xs = [.d d] ∧ itemsOf d = some l ∧ Cmp2 l ∧ l.length ≤ 100000 ∧ ∀ out, OnceOf l out → Pv (.d (.tup out)) O
theorem once_len (l : List D) : ∀ i, ((l.take i).foldl onceS []).length ≤ i := by
  have key : ∀ (r acc : List D), (r.foldl onceS acc).length ≤ acc.length + r.length := by
    intro r
    induction r with
    | nil => intro acc; exact Nat.le_refl _
    | cons x r ih =>
      intro acc
      rw [List.foldl_cons]
      have h1 := ih (onceS acc x)
      have h2 : (onceS acc x).length ≤ acc.length + 1 := by
        unfold onceS
        split
        · simp
        · split <;> simp
      rw [List.length_cons]
      omega
  intro i
  have := key (l.take i) []
  rw [List.length_take] at this
  simp only [List.length_nil] at this
  omega
theorem atI_last {acc : List D} {y : D} (h : acc.getLast? = some y) : atI acc (-1) = some y := by
  obtain ⟨m, rfl⟩ := last_snoc h
  have e : ixN (m ++ [y]).length (-1) = some m.length := by
    unfold ixN
    rw [if_neg (by decide), List.length_append, List.length_singleton]
    first
      | (rw [if_pos (by omega)]; congr 1; omega)
      | (simp; omega)
  unfold atI
  rw [e]
  show (m ++ [y])[m.length]? = some y
  rw [List.getElem?_append_right (Nat.le_refl _), Nat.sub_self]
  rfl
theorem ok_once {k : Nat} (X : Txt K mg base a) : FnOk P w K mg base CX0 (k + 1) a.f_law_once a.d_law_once ["some"] (spOf K (T a) spOnce) := by
  refine X.F_law_once.ok sc_law_once ?_ fun A outer s H E hr => ⟨_, (pss_cons (ps_set (i := 1) sc_law_once.nd rfl (by first | exact .inl rfl | exact .inr rfl) (pe_lst pa_nil)) (pss_cons (ps_for PassesOwn.never rfl (Al.pi_seqK (K := K) rfl (pe_callB (call_sortTreeK (K := K) rfl (Al.room_u70 hr)) (by rfl) X.m_sorted (by decide +kernel) (pa_cons (pv 0) pa_nil))) (pg_name (i := 2) sc_law_once.nd rfl (by first | exact .inl rfl | exact .inr rfl)) (pss_one (ps_if (PW.pt (pw_or (pt_cmpR (op_eqAK (K := K) rfl (Al.room_u hr)) (pv 1) (pe_lst pa_nil) (nomark _)) (pw_or1 (pt_cmpR (op_neAK (K := K) rfl (Al.room_u hr)) (pe_ix (ix_seqK (K := K) rfl) (pv 1) (pe_un un_neg pe_int) (fun _ _ => rfl)) (pv 2) (nomark _))))) (pss_one (ps_expr (pe_bm PySem.F.plainAttrs_list PySem.F.slot_list_append PySem.F.type_list_append mt_append (pv 1) (pa_cons (pv 2) pa_nil)))) pss_nil))) (pss_one (ps_ret (pe_callTy (call_tupleK (K := K) rfl) (by rfl) X.m_tuple (by decide +kernel) (pa_cons (pv 1) pa_nil)))))), ?_⟩
  · rintro xs O Pv ⟨d, l, rfl, _⟩
    rfl
  · rintro xs O Pv ⟨d, l, rfl, hd, c, hl, p⟩
    repeat contradiction
    refine re_lstOD ?_
    repeat contradiction
    refine ⟨rfl, fun pf => ?_⟩
    refine rs_seq (rs_for (ri_seq ?_))
    repeat contradiction
    refine rc_sortT hd c.ok c.cmp fun l' hp hs => ?_
    have c' := c.perm hp
    have hl' : l'.length ≤ 100000 := by rw [hp.length_eq]; exact hl
    refine ⟨_, _, rfl, rfl, fun (i : Nat) ρ' O' => O' = (pf, .ls ((l'.take i).foldl onceS [])) :: O ∧ ∃ u, ρ' = [.d d, .o pf, u], ⟨rfl, _, rfl⟩, ?_, ?_⟩
    · rintro ρ' O' ⟨rfl, u, rfl⟩
      rw [List.take_length]
      refine rs_ret (re_dropPost ?_)
      repeat contradiction
      refine rc_tupleO (.head _) ?_
      exact ⟨_, _, rfl, p _ ⟨l', hp, hs, rfl⟩⟩
    · rintro i dd ρ' O' ⟨rfl, u, rfl⟩ hi
      have hm : dd ∈ l' := List.mem_of_getElem? hi
      have hil := (List.getElem?_eq_some_iff.mp hi).1
      have et : (l'.take (i + 1)).foldl onceS [] = onceS ((l'.take i).foldl onceS []) dd := by rw [List.take_add_one, hi, List.foldl_append]; rfl
      have hlen := once_len l' i
      have hin : ∀ x ∈ (l'.take i).foldl onceS [], x ∈ l' := fun x hx => by
        have key : ∀ (r acc : List D), ∀ x ∈ r.foldl onceS acc, x ∈ acc ∨ x ∈ r := by
          intro r
          induction r with
          | nil => intro acc x hx; exact .inl hx
          | cons z r ih =>
            intro acc x hx
            rw [List.foldl_cons] at hx
            rcases ih _ x hx with hx | hx
            · unfold onceS at hx
              split at hx
              · rcases List.mem_append.mp hx with hx | hx
                · exact .inl hx
                · rw [List.mem_singleton.mp hx]; exact .inr (.head _)
              · split at hx
                · exact .inl hx
                · rcases List.mem_append.mp hx with hx | hx
                  · exact .inl hx
                  · rw [List.mem_singleton.mp hx]; exact .inr (.head _)
            · exact .inr (.tail _ hx)
        rcases key _ _ x hx with h | h
        · cases h
        · exact List.mem_of_mem_take h
      generalize (l'.take i).foldl onceS [] = acc at *
      refine rg_name ?_
      repeat contradiction
      refine re_lstD ?_
      repeat contradiction
      refine ⟨rfl, ?_⟩
      refine rr_eqO0 (.head _) ?_
      refine ⟨_, rfl, ?_⟩
      cases q : acc.getLast? with
      | none =>
        have : acc = [] := List.getLast?_eq_none_iff.mp q
        subst this
        refine ift rfl ?_
        repeat contradiction
        refine rs_drop (re_append ?_)
        repeat contradiction
        refine ⟨_, _, rfl, .head _, ?_⟩
        repeat contradiction
        refine ⟨_, [], O, rfl, .refl _, small1000 (by decide), ?_⟩
        exact ⟨by rw [et]; rfl, _, rfl⟩
      | some y =>
        obtain ⟨m, rfl⟩ := last_snoc q
        have ym : y ∈ l' := hin y (by simp)
        refine iff' (by simp) ?_
        repeat contradiction
        refine rr_ixO (.head _) (atI_last q) ?_
        repeat contradiction
        refine rr_ne (n := 64) (m := 64) (c'.ok y ym).pl (c'.ok dd hm).pl (Nat.le_refl _) (Nat.le_refl _) ?_
        refine ⟨_, rfl, ?_⟩
        cases z : eqD y dd with
        | true =>
          refine iff' rfl ?_
          repeat contradiction
          refine ⟨?_, _, rfl⟩
          rw [et, onceS, q]
          dsimp only
          rw [if_pos z]
        | false =>
          refine ift rfl ?_
          repeat contradiction
          refine rs_drop (re_append ?_)
          repeat contradiction
          refine ⟨_, _, rfl, .head _, ?_⟩
          repeat contradiction
          refine ⟨_, m ++ [y], O, rfl, .refl _, Nat.lt_of_le_of_lt (show (m ++ [y]).length ≤ 100000 by omega) (by decide), ?_⟩
          refine ⟨?_, _, rfl⟩
          rw [et, onceS, q]
          dsimp only
          rw [if_neg (by rw [z]; exact Bool.false_ne_true)]
end K0
end
section
set_option Elab.async false
set_option linter.all false
set_option maxRecDepth 100000
set_option maxHeartbeats 2000000
namespace K0
open PySem PySem.Spec PyProof.Rows L2 Al
variable {P : Program} {w : World} {K : PySem.W.Frag} {mg : Str → Option Value} {base : Heap} {a : Ad}
local macro_rules
  | `(tactic| contradiction) => `(tactic| first
    | with_reducible refine rs_seq ?_ | with_reducible refine rs_if ?_ | with_reducible refine rs_ret ?_ | with_reducible refine rt_and ?_ | with_reducible refine rt_or ?_ | with_reducible refine rt_not ?_ | with_reducible refine rt_test ?_ | with_reducible refine rt_B ?_ | with_reducible refine rs_asg ?_ | with_reducible refine rs_par ?_
    | with_reducible refine re_cb ?_ | with_reducible refine re_op ?_ | with_reducible refine re_if ?_ | with_reducible refine re_un ?_ | with_reducible refine ra_cons ?_ | with_reducible refine ra_nil ?_ | with_reducible refine re_int ?_ | with_reducible refine re_str ?_ | with_reducible refine re_bl ?_ | with_reducible refine re_non ?_ | with_reducible refine re_ty ?_ 
    | refine re_var rfl (fun z => by cases z) ?_ | with_reducible refine rr_b ?_ | with_reducible refine rr_i ?_ | with_reducible refine ru_i ?_
    | with_reducible refine rc_isi rfl (by first | exact (show kitB _ _ = some true by decide +kernel) | exact (show kitB _ _ = some false by decide +kernel)) ?_
    | with_reducible refine rc_len rfl ?_ | with_reducible refine rr_ix rfl atI_0 ?_ | with_reducible refine rr_ix rfl atI_1 ?_
    | with_reducible refine rr_eqF rfl ?_ | with_reducible refine rr_neF rfl ?_ | with_reducible refine rr_addI ?_ | with_reducible refine rc_abs ?_ | with_reducible refine rc_int ?_ | with_reducible refine rc_min ?_
    | refine ⟨_, rfl, ?_⟩ | rw [if_pos rfl] | rw [if_neg Bool.false_ne_true] | with_reducible refine rs_next ?_ | (with_reducible refine ift ?_ ?_; focus (simp; done)) | (with_reducible refine iff' ?_ ?_; focus (simp; done)) | dsimp only)



/-! ### ascending: pairwise -/
structure Cmp1 (l : List D) : Prop where
  st : ∀ x ∈ l, stD x = true
  cmp : ∀ x ∈ l, ∀ y ∈ l, ∃ b, ltD x y = some b
theorem Cmp1.tail {x : D} {l : List D} (c : Cmp1 (x :: l)) : Cmp1 l := ⟨fun y hy => c.st y (.tail _ hy), fun u hu v hv => c.cmp u (.tail _ hu) v (.tail _ hv)⟩
theorem Cmp1.sub {l m : List D} (c : Cmp1 l) (h : m.Sublist l) : Cmp1 m := ⟨fun y hy => c.st y (h.subset hy), fun u hu v hv => c.cmp u (h.subset hu) v (h.subset hv)⟩
theorem asc_step' {x y : D} {r : List D} (h : ascD (x :: y :: r) = some true) : ltD x y = some true ∧ ascD (y :: r) = some true := by
  have h : (match ltD x y with | some true => ascD (y :: r) | some false => some false | none => none) = some true := h
  cases q : ltD x y with
  | none => rw [q] at h; cases h
  | some b =>
    rw [q] at h
    cases b with
    | false => cases h
    | true => exact ⟨rfl, h⟩
theorem asc_cons {x y : D} {r : List D} (h1 : ltD x y = some true) (h2 : ascD (y :: r) = some true) : ascD (x :: y :: r) = some true := by
  show (match ltD x y with | some true => ascD (y :: r) | some false => some false | none => none) = some true
  rw [h1]
  exact h2
theorem asc_iff : ∀ {l : List D}, Cmp1 l → (ascD l = some true ↔ l.Pairwise fun x y => HT.lexLt (code x) (code y) = true)
  | [], _ => ⟨fun _ => .nil, fun _ => rfl⟩
  | [x], _ => ⟨fun _ => List.pairwise_singleton _ _, fun _ => rfl⟩
  | x :: y :: r, c => by
    have ih := asc_iff c.tail
    constructor
    · intro h
      obtain ⟨h1, h2⟩ := asc_step' h
      have p := ih.mp h2
      have lx := lt_code (c.st x (.head _)) (c.st y (.tail _ (.head _))) h1
      refine List.pairwise_cons.mpr ⟨fun z hz => ?_, p⟩
      rcases List.mem_cons.mp hz with rfl | hz
      · exact lx
      · exact (NtL.swo_lexL (fun x : D => code x)).ltle lx ((NtL.swo_lexL (fun x : D => code x)).asym _ _ ((List.pairwise_cons.mp p).1 z hz))
    · intro p
      obtain ⟨p1, p2⟩ := List.pairwise_cons.mp p
      obtain ⟨b, hb⟩ := c.cmp x (.head _) y (.tail _ (.head _))
      have e := lt_code (c.st x (.head _)) (c.st y (.tail _ (.head _))) hb
      rw [p1 y (.head _)] at e
      subst e
      exact asc_cons hb (ih.mpr p2)
theorem asc_sub {l m : List D} (c : Cmp1 l) (h : m.Sublist l) (ha : ascD l = some true) : ascD m = some true := (asc_iff (c.sub h)).mpr (((asc_iff c).mp ha).sublist h)
theorem cmp_txts (l : List Str) : Cmp1 (txts l) := ⟨fun x hx => by
  obtain ⟨u, _, rfl⟩ := List.mem_map.mp hx
  rw [stD], fun x hx y hy => by
  obtain ⟨u, _, rfl⟩ := List.mem_map.mp hx
  obtain ⟨v, _, rfl⟩ := List.mem_map.mp hy
  exact ⟨_, by rw [ltD]⟩⟩
/-! ### the law's scope -/
theorem asc_sorted : ∀ (l : List Str), l.Nodup → sortedS l = true → ascD (txts l) = some true
  | [], _, _ => rfl
  | [x], _, _ => rfl
  | x :: y :: r, nd, h => by
    have h : (!ltCps y.cps.toList x.cps.toList && risingS y r) = true := h
    rw [Bool.and_eq_true] at h
    rw [List.nodup_cons] at nd
    refine asc_cons ?_ (asc_sorted (y :: r) nd.2 h.2)
    rw [ltD]
    congr 1
    have h1 : ¬ y.cps.toList < x.cps.toList := by
      have := h.1
      rw [ltCps_eq] at this
      simpa using this
    refine decide_eq_true ?_
    rcases Decidable.em (x.cps.toList < y.cps.toList) with q | q
    · exact q
    · exfalso
      have e : x.cps.toList = y.cps.toList := List.le_antisymm (List.not_lt.mp h1) (List.not_lt.mp q)
      have : x.cps = y.cps := Array.toList_inj.mp e
      have : x = y := by cases x; cases y; simp_all
      exact nd.1 (by rw [this]; exact .head _)
theorem scope_of_names {l ys : List Str} (n : NamesOk l) (hl : l.length ≤ 3) (p : ys.Perm l) (s : sortedS ys = true) : scopeD (.tup (txts ys)) = true := by
  rw [scope_tup, Bool.and_eq_true, Bool.and_eq_true, decide_eq_true_eq, decide_eq_true_eq]
  refine ⟨⟨?_, ?_⟩, asc_sorted ys (p.nodup_iff.mpr n.nd) s⟩
  · rw [show (txts ys).length = ys.length from List.length_map .., p.length_eq]
    exact hl
  · rw [List.all_eq_true]
    intro x hx
    obtain ⟨u, hu, rfl⟩ := List.mem_map.mp hx
    exact n.nm u (p.mem_iff.mp hu)
def spLScope : Prm := fun xs O Pv => ∃ d s, xs = [.o d, .d (.int 3)] ∧ O = dOwn d s ∧ s.Ok ∧ s.turn + 300 ≤ 2 ^ 40 ∧ ∀ sc s', scopeD (.tup (txts sc)) = true → (∀ u ∈ sc, (u == "zzzz") = false) → Dr.Ok s' → s'.turn ≤ s.turn + 101 → Pv (.d (.tup (txts sc))) (dOwn d s')
theorem ok_lscope {k : Nat} (X : Txt K mg base a) : FnOk P w K mg base CX0 (k + 5) a.f_law_scope a.d_law_scope ["draw", "most"] (spOf K (T a) spLScope) := by
  have G_law_names := ok_names (P := P) (w := w) (k := k) X
  have G_law_take := ok_take (P := P) (w := w) (k := k) X
  refine X.F_law_scope.ok sc_law_scope ?_ fun A outer s H E hr => ⟨_, (pss_one (ps_ret (pe_callTy (call_tupleK (K := K) rfl) (by rfl) X.m_tuple (by decide +kernel) (pa_cons (pe_callB (call_sortedSK (K := K) rfl) (by rfl) X.m_sorted (by decide +kernel) (pa_cons (pe_call (G_law_names) (hr.mono (by omega)) (by rfl) X.g_law_names X.F_law_names.kp X.b_law_names .nil pass0 (pa_cons (pv 0) (pa_cons (pe_call (G_law_take) (hr.mono (by omega)) (by rfl) X.g_law_take X.F_law_take.kp X.b_law_take .nil pass0 (pa_cons (pv 0) (pa_cons (pe_op (op_addAK (K := K) rfl) (pv 1) pe_int) pa_nil))) pa_nil))) pa_nil)) pa_nil)))), ?_⟩
  · rintro xs O Pv ⟨d, s, rfl, _⟩
    rfl
  · rintro xs O Pv ⟨d, s, rfl, rfl, ok, ht, p⟩
    repeat contradiction
    refine re_callF ?_
    repeat contradiction
    refine re_callF ?_
    repeat contradiction
    refine ⟨dOwn d s, [], .refl _, d, s, _, rfl, rfl, ok, by omega, by decide, by decide, fun n s1 n0 n1 ok1 ht1 => ?_⟩
    obtain ⟨m, rfl⟩ := Int.eq_ofNat_of_zero_le n0
    rw [List.append_nil]
    repeat contradiction
    refine ⟨dOwn d s1, [], .refl _, d, s1, m, rfl, by omega, rfl, ok1, by omega, fun l s2 no hl ok2 ht2 => ?_⟩
    repeat contradiction
    refine rc_sortedS (by omega) fun ys hp hs => ?_
    repeat contradiction
    refine rc_tuple rfl ?_
    exact p ys s2 (scope_of_names no (by omega) hp hs) (fun u hu => no.nz u (hp.mem_iff.mp hu)) ok2 (by omega)
end K0
end
section
set_option Elab.async false
set_option linter.all false
set_option maxRecDepth 100000
set_option maxHeartbeats 2000000
namespace K0
open PySem PySem.Spec PyProof.Rows L2 Al
variable {P : Program} {w : World} {K : PySem.W.Frag} {mg : Str → Option Value} {base : Heap} {a : Ad}
local macro_rules
  | `(tactic| contradiction) => `(tactic| first
    | with_reducible refine rs_seq ?_ | with_reducible refine rs_if ?_ | with_reducible refine rs_ret ?_ | with_reducible refine rt_and ?_ | with_reducible refine rt_or ?_ | with_reducible refine rt_not ?_ | with_reducible refine rt_test ?_ | with_reducible refine rt_B ?_ | with_reducible refine rs_asg ?_ | with_reducible refine rs_par ?_
    | with_reducible refine re_cb ?_ | with_reducible refine re_op ?_ | with_reducible refine re_if ?_ | with_reducible refine re_un ?_ | with_reducible refine ra_cons ?_ | with_reducible refine ra_nil ?_ | with_reducible refine re_int ?_ | with_reducible refine re_str ?_ | with_reducible refine re_bl ?_ | with_reducible refine re_non ?_ | with_reducible refine re_ty ?_ 
    | refine re_var rfl (fun z => by cases z) ?_ | with_reducible refine rr_b ?_ | with_reducible refine rr_i ?_ | with_reducible refine ru_i ?_
    | with_reducible refine rc_isi rfl (by first | exact (show kitB _ _ = some true by decide +kernel) | exact (show kitB _ _ = some false by decide +kernel)) ?_
    | with_reducible refine rc_len rfl ?_ | with_reducible refine rr_ix rfl atI_0 ?_ | with_reducible refine rr_ix rfl atI_1 ?_
    | with_reducible refine rr_eqF rfl ?_ | with_reducible refine rr_neF rfl ?_ | with_reducible refine rr_addI ?_ | with_reducible refine rc_abs ?_ | with_reducible refine rc_int ?_ | with_reducible refine rc_min ?_
    | refine ⟨_, rfl, ?_⟩ | rw [if_pos rfl] | rw [if_neg Bool.false_ne_true] | with_reducible refine rs_next ?_ | (with_reducible refine ift ?_ ?_; focus (simp; done)) | (with_reducible refine iff' ?_ ?_; focus (simp; done)) | dsimp only)



/-! ### weaves that are drawn: their size -/
theorem wv_none (sc : List Str) (n : Nat) : wvD sc (n + 1) (.tup [.str "none"]) = true := rfl
theorem wv_letter {sc : List Str} {l : List D} (n : Nat) (h : letterD sc (.tup l) = true) : wvD sc (n + 1) (.tup [.str "letter", .tup l]) = true := by
  have : wvD sc (n + 1) (.tup [.str "letter", .tup l]) = letterD sc (.tup l) := by
    rw [wvD]
    show ((true && letterD sc (.tup l)) && (true && true)) = _
    simp
  rw [this, h]
theorem wv_then {sc : List Str} {n : Nat} {e f : D} (he : wvD sc n e = true) (hf : wvD sc n f = true) : wvD sc (n + 1) (.tup [.str "then", e, f]) = true := by
  rw [wvD]
  show (true && ((wvD sc n e && (wvD sc n f && true)) && ascIf _)) = true
  rw [he, hf]
  cases e <;> rfl
theorem wv_on {sc : List Str} {n : Nat} {e : D} (he : wvD sc n e = true) : wvD sc (n + 1) (.tup [.str "on", e]) = true := by
  rw [wvD]
  show (true && ((wvD sc n e && true) && ascIf _)) = true
  rw [he]
  cases e <;> rfl
theorem wv_back {sc : List Str} {n : Nat} {e : D} (he : wvD sc n e = true) : wvD sc (n + 1) (.tup [.str "back", e]) = true := by
  rw [wvD]
  show (true && ((wvD sc n e && true) && ascIf _)) = true
  rw [he]
  cases e <;> rfl
theorem wv_mix {sc : List Str} {n : Nat} {m : List D} (hm : ∀ x ∈ m, wvD sc n x = true) (ne : m ≠ []) (ha : ascD m = some true) : wvD sc (n + 1) (.tup [.str "mix", .tup m]) = true := by
  have h1 : knotD sc (.tup [.str "mix", .tup m]) = true := by
    show (true && !m.isEmpty) = true
    cases m with
    | nil => exact absurd rfl ne
    | cons x m => rfl
  rw [wvD, h1]
  show (true && (m.all (wvD sc n) && decide (ascD m = some true))) = true
  rw [List.all_eq_true.mpr hm, ha]
  rfl
theorem cnt_pos {sc : List Str} : ∀ {n : Nat} {d : D}, wvD sc n d = true → 1 ≤ cnt n d
  | 0, _, h => by cases h
  | n + 1, d, _ => by rw [cnt]; omega
theorem len_cnt {sc : List Str} {n : Nat} : ∀ {l : List D}, (∀ x ∈ l, wvD sc n x = true) → l.length ≤ (l.map (cnt n)).sum
  | [], _ => Nat.zero_le _
  | x :: l, h => by
    have := len_cnt (l := l) fun y hy => h y (.tail _ hy)
    have := cnt_pos (h x (.head _))
    simp only [List.length_cons, List.map_cons, List.sum_cons]
    omega
theorem mem_sum {f : D → Nat} : ∀ {l : List D} {x : D}, x ∈ l → f x ≤ (l.map f).sum
  | y :: l, x, h => by
    simp only [List.map_cons, List.sum_cons]
    rcases List.mem_cons.mp h with rfl | h
    · omega
    · have := mem_sum (f := f) h
      omega
theorem name_cl {u : Str} (h : nameS u = true) (n : Nat) : cl n (.str u) = true := by
  have hp := name_ok h
  rw [Al.plain] at hp
  unfold nameS at h
  simp only [Bool.and_eq_true, decide_eq_true_eq] at h
  have : decide (u.length ≤ 100000) = true := decide_eq_true (by omega)
  cases n <;> (rw [cl, hp, this]; rfl)
theorem head_cl {u : Str} (h : u = "none" ∨ u = "letter" ∨ u = "mix" ∨ u = "then" ∨ u = "on" ∨ u = "back") (n : Nat) : cl n (.str u) = true := by
  have : (PyData.strOk u && decide (u.length ≤ 100000)) = true := by
    rcases h with rfl | rfl | rfl | rfl | rfl | rfl <;> decide +kernel
  cases n <;> (rw [cl]; exact this)
theorem wv_cl {sc : List Str} (hsc : ∀ u ∈ sc, nameS u = true) (h3 : sc.length ≤ 3) : ∀ (n : Nat) (d : D), wvD sc n d = true → cnt n d ≤ 1000 → cl (2 * n) d = true
  | 0, _, h, _ => by cases h
  | n + 1, d, h, hc => by
    rw [wvD, Bool.and_eq_true, Bool.and_eq_true] at h
    obtain ⟨h1, h2, _⟩ := h
    obtain ⟨u, r, rfl, q⟩ := knot_inv h1
    have hu : u = "none" ∨ u = "letter" ∨ u = "mix" ∨ u = "then" ∨ u = "on" ∨ u = "back" := by
      rcases q with ⟨h, _⟩ | ⟨h, _⟩ | ⟨h, _⟩ | ⟨h, _⟩ | ⟨h, _⟩ | ⟨h, _⟩ <;> simp [h]
    have ih : ∀ {l : List D}, l.all (wvD sc n) = true → 1 + (l.map (cnt n)).sum ≤ 1000 → ∀ x ∈ l, cl (2 * n) x = true := fun ha hs x hx => by
      refine wv_cl hsc h3 n x (List.all_eq_true.mp ha x hx) ?_
      have := mem_sum (f := cnt n) hx
      omega
    show cl (2 * n + 1 + 1) _ = true
    rw [cnt] at hc
    have fin : ∀ r : List D, r.length ≤ 3 → (∀ x ∈ r, cl (2 * n + 1) x = true) → cl (2 * n + 1 + 1) (.tup (.str u :: r)) = true := fun r hr hx => by
      rw [cl, Bool.and_eq_true, decide_eq_true_eq, List.all_eq_true]
      refine ⟨by rw [List.length_cons]; omega, fun x hm => ?_⟩
      rcases List.mem_cons.mp hm with rfl | hm
      · exact head_cl hu _
      · exact hx x hm
    rcases q with ⟨rfl, rfl⟩ | ⟨rfl, l, rfl, q1⟩ | ⟨rfl, m, rfl, _⟩ | ⟨rfl, e, f, rfl⟩ | ⟨rfl, e, rfl⟩ | ⟨rfl, e, rfl⟩
    · exact fin [] (by decide) fun _ h => nomatch h
    · refine fin _ (by simp) fun x hx => ?_
      rw [List.mem_singleton.mp hx, cl, Bool.and_eq_true, decide_eq_true_eq, List.all_eq_true]
      have q2 := q1
      rw [letter_tup, Bool.and_eq_true, Bool.and_eq_true, decide_eq_true_eq] at q2
      refine ⟨by omega, fun y hy => ?_⟩
      obtain ⟨v, rfl, hv⟩ := inSc_str (List.all_eq_true.mp q2.1.2 y hy)
      exact name_cl (hsc v hv) _
    · refine fin _ (by simp) fun x hx => ?_
      rw [List.mem_singleton.mp hx, cl, Bool.and_eq_true, decide_eq_true_eq, List.all_eq_true]
      have hl := len_cnt (List.all_eq_true.mp h2)
      have hc : 1 + (m.map (cnt n)).sum ≤ 1000 := hc
      have hl : m.length ≤ (m.map (cnt n)).sum := hl
      exact ⟨by omega, fun y hy => ih h2 hc y hy⟩
    · exact fin _ (by simp) fun x hx => cl_mono (ih (l := [e, f]) h2 hc x hx) (by omega)
    · exact fin _ (by simp) fun x hx => cl_mono (ih (l := [e]) h2 hc x hx) (by omega)
    · exact fin _ (by simp) fun x hx => cl_mono (ih (l := [e]) h2 hc x hx) (by omega)
theorem stL_all : ∀ {l : List D}, (∀ x ∈ l, stD x = true) → stL l = true
  | [], _ => by rw [stL]
  | x :: l, h => by rw [stL, Bool.and_eq_true]; exact ⟨h x (.head _), stL_all fun y hy => h y (.tail _ hy)⟩
theorem wv_st {sc : List Str} : ∀ (n : Nat) (d : D), wvD sc n d = true → stD d = true
  | 0, _, h => by cases h
  | n + 1, d, h => by
    rw [wvD, Bool.and_eq_true, Bool.and_eq_true] at h
    obtain ⟨h1, h2, _⟩ := h
    obtain ⟨u, r, rfl, q⟩ := knot_inv h1
    have ih : ∀ {l : List D}, l.all (wvD sc n) = true → ∀ x ∈ l, stD x = true := fun ha x hx => wv_st n x (List.all_eq_true.mp ha x hx)
    rw [stD, stL, Bool.and_eq_true]
    refine ⟨by rw [stD], stL_all fun x hx => ?_⟩
    rcases q with ⟨rfl, rfl⟩ | ⟨rfl, l, rfl, q1⟩ | ⟨rfl, m, rfl, _⟩ | ⟨rfl, e, f, rfl⟩ | ⟨rfl, e, rfl⟩ | ⟨rfl, e, rfl⟩
    · cases hx
    · rw [List.mem_singleton.mp hx, stD]
      refine stL_all fun y hy => ?_
      obtain ⟨v, rfl⟩ := letter_strs q1 y hy
      rw [stD]
    · rw [List.mem_singleton.mp hx, stD]
      exact stL_all fun y hy => ih h2 y hy
    · exact ih h2 x hx
    · exact ih h2 x hx
    · exact ih h2 x hx
theorem wv_tree {sc : List Str} (hsc : ∀ u ∈ sc, nameS u = true) (h3 : sc.length ≤ 3) {n : Nat} {d : D} (h : wvD sc n d = true) (hc : cnt n d ≤ 1000) (hn : n ≤ 32) : TreeOk d := by
  refine ⟨wv_st n d h, plain_mono (wv_plain n (2 * n) d h (wv_cl hsc h3 n d h hc)) (by omega), ?_⟩
  cases n with
  | zero => cases h
  | succ n =>
    rw [wvD, Bool.and_eq_true] at h
    obtain ⟨u, r, rfl, _⟩ := knot_inv h.1
    exact ⟨u, r, rfl⟩
theorem wv_cmp2 {sc : List Str} (hsc : ∀ u ∈ sc, nameS u = true) (h3 : sc.length ≤ 3) {n : Nat} {l : List D} (h : ∀ x ∈ l, wvD sc n x = true) (hc : ∀ x ∈ l, cnt n x ≤ 1000) (hn : n ≤ 32) : Cmp2 l :=
  ⟨fun x hx => wv_tree hsc h3 (h x hx) (hc x hx) hn, fun x hx y hy => wv_lt n n x y (h x hx) (h y hy)⟩
theorem sum_sub {f : D → Nat} {l m : List D} (h : m.Sublist l) : (m.map f).sum ≤ (l.map f).sum := by
  induction h with
  | slnil => exact Nat.le_refl _
  | cons a _ ih => simp only [List.map_cons, List.sum_cons]; omega
  | cons_cons a _ ih => simp only [List.map_cons, List.sum_cons]; omega
theorem sum_perm {f : D → Nat} {l m : List D} (h : m.Perm l) : (m.map f).sum = (l.map f).sum := (h.map f).sum_nat
theorem once_sub (l : List D) : (onceD l).Sublist l := by
  have key : ∀ (r acc p : List D), acc.Sublist p → (r.foldl onceS acc).Sublist (p ++ r) := by
    intro r
    induction r with
    | nil => intro acc p h; rw [List.append_nil]; exact h
    | cons x r ih =>
      intro acc p h
      rw [List.foldl_cons]
      have e : p ++ x :: r = (p ++ [x]) ++ r := by simp
      rw [e]
      refine ih _ _ ?_
      unfold onceS
      split
      · exact h.append (List.Sublist.refl _)
      · split
        · exact h.trans (List.sublist_append_left _ _)
        · exact h.append (List.Sublist.refl _)
  exact key l [] [] (List.Sublist.refl _)
theorem once_sum {f : D → Nat} {l out : List D} (h : OnceOf l out) : (out.map f).sum ≤ (l.map f).sum := by
  obtain ⟨l', p, s, rfl⟩ := h
  rw [← sum_perm p]
  exact sum_sub (once_sub l')
theorem pathsL_len : ∀ (l : List D) (i : Nat), (pathsL i l).length = (l.map fun x => (pathsD x).length).sum
  | [], i => by rw [pathsL]; rfl
  | x :: l, i => by
    rw [pathsL, List.length_append, List.length_map, pathsL_len l]
    rfl
theorem paths_tup (l : List D) : (pathsD (.tup l)).length = 1 + (l.map fun x => (pathsD x).length).sum := by
  rw [pathsD, List.length_cons, pathsL_len]
  omega
theorem paths_str (u : Str) : (pathsD (.str u)).length = 1 := by
  have : pathsD (.str u) = [[]] := by simp [pathsD]
  rw [this]
  rfl
theorem lawL_sub : ∀ (n : Nat) (l : List D), l.length = n → ∀ m ∈ lawL l, m.Sublist l
  | 0, l, h, m, hm => by
    rw [List.eq_nil_of_length_eq_zero h] at hm ⊢
    rw [show m = [] by simpa [lawL] using hm]
    exact List.Sublist.refl _
  | n + 1, l, h, m, hm => by
    have hne : l ≠ [] := fun z => by rw [z] at h; cases h
    rw [← List.dropLast_concat_getLast hne] at hm ⊢
    rw [lawL_snoc] at hm
    have ih := lawL_sub n l.dropLast (by rw [List.length_dropLast, h]; rfl)
    rcases List.mem_append.mp hm with hm | hm
    · exact (ih m hm).trans (List.sublist_append_left _ _)
    · obtain ⟨u, hu, rfl⟩ := List.mem_map.mp hm
      exact (ih u hu).append (List.Sublist.refl _)
theorem law_letter {sc : List Str} (hs : scopeD (.tup (txts sc)) = true) {l : List D} (h : l ∈ lawL (txts sc)) : letterD sc (.tup l) = true := by
  have sub := lawL_sub _ (txts sc) rfl l h
  rw [scope_tup, Bool.and_eq_true, Bool.and_eq_true, decide_eq_true_eq, decide_eq_true_eq] at hs
  rw [letter_tup, Bool.and_eq_true, Bool.and_eq_true, decide_eq_true_eq, decide_eq_true_eq]
  refine ⟨⟨?_, ?_⟩, asc_sub (cmp_txts sc) sub hs.2⟩
  · have := sub.length_le
    rwa [show (txts sc).length = sc.length from List.length_map ..] at this
  · rw [List.all_eq_true]
    intro x hx
    obtain ⟨u, hu, rfl⟩ := List.mem_map.mp (sub.subset hx)
    show sc.contains u = true
    simpa using hu
end K0
end
section
set_option Elab.async false
set_option linter.all false
set_option maxRecDepth 100000
set_option maxHeartbeats 2000000
namespace K0
open PySem PySem.Spec PyProof.Rows L2 Al
variable {P : Program} {w : World} {K : PySem.W.Frag} {mg : Str → Option Value} {base : Heap} {a : Ad}
local macro_rules
  | `(tactic| contradiction) => `(tactic| first
    | with_reducible refine rs_seq ?_ | with_reducible refine rs_if ?_ | with_reducible refine rs_ret ?_ | with_reducible refine rt_and ?_ | with_reducible refine rt_or ?_ | with_reducible refine rt_not ?_ | with_reducible refine rt_test ?_ | with_reducible refine rt_B ?_ | with_reducible refine rs_asg ?_ | with_reducible refine rs_par ?_
    | with_reducible refine re_cb ?_ | with_reducible refine re_op ?_ | with_reducible refine re_if ?_ | with_reducible refine re_un ?_ | with_reducible refine ra_cons ?_ | with_reducible refine ra_nil ?_ | with_reducible refine re_int ?_ | with_reducible refine re_str ?_ | with_reducible refine re_bl ?_ | with_reducible refine re_non ?_ | with_reducible refine re_ty ?_ 
    | refine re_var rfl (fun z => by cases z) ?_ | with_reducible refine rr_b ?_ | with_reducible refine rr_i ?_ | with_reducible refine ru_i ?_
    | with_reducible refine rc_isi rfl (by first | exact (show kitB _ _ = some true by decide +kernel) | exact (show kitB _ _ = some false by decide +kernel)) ?_
    | with_reducible refine rc_len rfl ?_ | with_reducible refine rr_ix rfl atI_0 ?_ | with_reducible refine rr_ix rfl atI_1 ?_
    | with_reducible refine rr_eqF rfl ?_ | with_reducible refine rr_neF rfl ?_ | with_reducible refine rr_addI ?_ | with_reducible refine rc_abs ?_ | with_reducible refine rc_int ?_ | with_reducible refine rc_min ?_
    | refine ⟨_, rfl, ?_⟩ | rw [if_pos rfl] | rw [if_neg Bool.false_ne_true] | with_reducible refine rs_next ?_ | (with_reducible refine ift ?_ ?_; focus (simp; done)) | (with_reducible refine iff' ?_ ?_; focus (simp; done)) | dsimp only)



/-! ### the law's weave -/
def phi (c : Int) : Int := if c ≤ 1 then 0 else c - 1
theorem phi_le {c : Int} (h : c ≤ 1) : phi c = 0 := if_pos h
theorem phi_gt {c : Int} (h : 1 ≤ c) : phi c = c - 1 := by
  unfold phi
  by_cases q : c ≤ 1
  · rw [if_pos q]; omega
  · rw [if_neg q]
theorem phi_0 (c : Int) : 0 ≤ phi c := by
  unfold phi
  by_cases q : c ≤ 1
  · rw [if_pos q]; omega
  · rw [if_neg q]; omega
structure Drn (sc : List Str) (N : Nat) (w : D) (c c' : Int) (I : Nat) : Prop where
  wv : wvD sc N w = true
  cn : cnt N w ≤ 1 + 3 * I
  pa : (pathsD w).length ≤ 6 + 15 * I
  us : (I : Int) + phi c' ≤ phi c
  ca : c - c' ≤ 1 + 3 * I
  de : c' ≤ c - 1
abbrev lOwn (d p : Addr) (s : Dr) (c : Int) : Own := dOwn d s ++ [(p, .ls [.int c])]
theorem lo_mem {d p : Addr} {s : Dr} {c : Int} : (p, C.ls [.int c]) ∈ lOwn d p s c := List.mem_append_right _ (.head _)
theorem lo_perm {d p : Addr} {s : Dr} {c : Int} : (lOwn d p s c).Perm ((p, C.ls [.int c]) :: dOwn d s) := List.perm_append_comm (l₁ := dOwn d s) (l₂ := [(p, C.ls [.int c])])
/-- the weaves of a row, drawn one behind the other -/
structure Row (sc : List Str) (N : Nat) (l : List D) (c c' : Int) (I : Nat) : Prop where
  wv : ∀ x ∈ l, wvD sc N x = true
  cn : (l.map (cnt N)).sum ≤ l.length + 3 * I
  pa : (l.map fun x => (pathsD x).length).sum ≤ 6 * l.length + 15 * I
  us : (I : Int) + phi c' ≤ phi c
  ca : c - c' ≤ l.length + 3 * I
  de : c' ≤ c - l.length
theorem Row.nil (sc : List Str) (N : Nat) (c : Int) : Row sc N [] c c 0 := ⟨(fun _ h => nomatch h), by simp, by simp, by simp, by simp, by simp⟩
theorem Row.snoc {sc : List Str} {N : Nat} {l : List D} {c c' c2 : Int} {I J : Nat} {w : D} (r : Row sc N l c c' I) (h : Drn sc N w c' c2 J) : Row sc N (l ++ [w]) c c2 (I + J) := by
  obtain ⟨a1, a2, a3, a4, a5, a6⟩ := r
  obtain ⟨b1, b2, b3, b4, b5, b6⟩ := h
  refine ⟨fun x hx => ?_, ?_, ?_, ?_, ?_, ?_⟩
  · rcases List.mem_append.mp hx with hx | hx
    · exact a1 x hx
    · rw [List.mem_singleton.mp hx]; exact b1
  · simp only [List.map_append, List.sum_append, List.map_cons, List.map_nil, List.sum_cons, List.sum_nil, List.length_append, List.length_singleton]; omega
  · simp only [List.map_append, List.sum_append, List.map_cons, List.map_nil, List.sum_cons, List.sum_nil, List.length_append, List.length_singleton]; omega
  · push_cast; omega
  · rw [List.length_append, List.length_singleton]; push_cast; omega
  · rw [List.length_append, List.length_singleton]; push_cast; omega
theorem paths_head (u : Str) (r : List D) : (pathsD (.tup (.str u :: r))).length = 2 + (r.map fun x => (pathsD x).length).sum := by
  rw [paths_tup, List.map_cons, List.sum_cons, paths_str]
  omega
/-- of a row a knot is made -/
theorem drn_knot {sc : List Str} {N : Nat} {c c' : Int} {I : Nat} {u : Str} {r l : List D} (h1 : 1 ≤ c - 1) (row : Row sc N l (c - 1) c' I) (h3 : l.length ≤ 3) (wv : wvD sc (N + 1) (.tup (.str u :: r)) = true) (pt : (partsD (.tup (.str u :: r))).getD [] = l ∨ ∃ out, (partsD (.tup (.str u :: r))).getD [] = out ∧ OnceOf l out)
    (pr : (r.map fun x => (pathsD x).length).sum ≤ 1 + (l.map fun x => (pathsD x).length).sum) : Drn sc (N + 1) (.tup (.str u :: r)) c c' (I + 1) := by
  obtain ⟨a1, a2, a3, a4, a5, a6⟩ := row
  have hsum : (((partsD (.tup (.str u :: r))).getD []).map (cnt N)).sum ≤ (l.map (cnt N)).sum := by
    rcases pt with e | ⟨out, e, h⟩
    · rw [e]; exact Nat.le_refl _
    · rw [e]; exact once_sum h
  have hp := phi_gt (c := c) (by omega)
  have hp1 := phi_gt (c := c - 1) (by omega)
  refine ⟨wv, by rw [cnt]; omega, by rw [paths_head]; omega, by push_cast; omega, by push_cast; omega, by omega⟩
theorem drn_none (sc : List Str) (N : Nat) (c : Int) : Drn sc (N + 1) (.tup [.str "none"]) c (c - 1) 0 := by
  refine ⟨wv_none sc N, Nat.le_refl _, ?_, ?_, by omega, by omega⟩
  · rw [paths_head]; simp
  · have h1 := phi_0 c
    by_cases q : 1 ≤ c - 1
    · rw [phi_gt q, phi_gt (by omega)]; omega
    · rw [phi_le (by omega)]; omega
theorem drn_letter {sc : List Str} (N : Nat) (c : Int) {m : List D} (h : letterD sc (.tup m) = true) (h3 : sc.length ≤ 3) : Drn sc (N + 1) (.tup [.str "letter", .tup m]) c (c - 1) 0 := by
  have q2 := h
  rw [letter_tup, Bool.and_eq_true, Bool.and_eq_true, decide_eq_true_eq] at q2
  refine ⟨wv_letter N h, Nat.le_refl _, ?_, ?_, by omega, by omega⟩
  · rw [paths_head, List.map_cons, List.map_nil, List.sum_cons, List.sum_nil, paths_tup]
    have key : ∀ l : List D, (∀ x ∈ l, ∃ u, x = D.str u) → (l.map fun x => (pathsD x).length).sum = l.length := by
      intro l
      induction l with
      | nil => intro _; rfl
      | cons x l ih =>
        intro hl
        obtain ⟨u, rfl⟩ := hl x (.head _)
        rw [List.map_cons, List.sum_cons, paths_str, ih fun y hy => hl y (.tail _ hy), List.length_cons]
        omega
    rw [key m (letter_strs h)]
    have := q2.1.1
    omega
  · have h1 := phi_0 c
    by_cases q : 1 ≤ c - 1
    · rw [phi_gt q, phi_gt (by omega)]; omega
    · rw [phi_le (by omega)]; omega
def spWv (N : Nat) : Prm := fun xs O Pv => ∃ d s sc p, ∃ c : Int, xs = [.o d, .d (.tup (txts sc)), .o p] ∧ scopeD (.tup (txts sc)) = true ∧ O = lOwn d p s c ∧ c < N ∧ 1 ≤ N ∧ N ≤ 20 ∧ c ≤ 12 ∧ s.Ok ∧ s.turn + 3 + 9 * phi c ≤ 2 ^ 40 ∧
  ∀ w c' s' I, Drn sc N w c c' I → Dr.Ok s' → s'.turn ≤ s.turn + 3 * (c - c') → Pv (.d w) (lOwn d p s' c')
theorem ok_wv {k : Nat} (X : Txt K mg base a) : ∀ N : Nat, FnOk P w K mg base CX0 (k + 4 + N) a.f_law_weave a.d_law_weave ["draw", "scope", "left"] (spOf K (T a) (spWv N))
  | 0 => fn_never fun xs O Pv ⟨d, s, sc, p, c, _, _, _, _, h, _⟩ => absurd h (by decide)
  | N + 1 => by
    have G_law_weave := ok_wv (k := k) X N
    have G_law_take := ok_take (P := P) (w := w) (k := k) X
    have G_law_pick := ok_pick (P := P) (w := w) (k := k) X
    have G_law_letters := ok_lawlet (P := P) (w := w) (k := k) X
    have G_law_once := ok_once (P := P) (w := w) (k := k) X
    refine FunT.ok (k := k + 4 + N) X.F_law_weave sc_law_weave ?_ fun A outer s H E hr => ⟨_, (pss_cons (ps_asg (pe_op op_sub (pe_ix (ix_seqK (K := K) rfl) (pv 2) pe_int (fun _ _ => rfl)) pe_int) (pg_sub (pv 2) pe_int set_list)) (pss_cons (ps_set (i := 3) sc_law_weave.nd rfl (by first | exact .inl rfl | exact .inr rfl) (pe_call (G_law_take) (hr.mono (by omega)) (by rfl) X.g_law_take X.F_law_take.kp X.b_law_take .nil pass0 (pa_cons (pv 0) (pa_cons pe_int pa_nil)))) (pss_cons (ps_if (PW.pt (pw_or (pt_cmpR op_le (pe_ix (ix_seqK (K := K) rfl) (pv 2) pe_int (fun _ _ => rfl)) pe_int (nomark _)) (pw_or1 (pt_cmpR op_lt (pv 3) pe_int (nomark _))))) (pss_one (ps_ret (pe_ifExp (PW.pt (pw_and (pt_cmpR (op_eqAK (K := K) rfl (Al.room_u hr)) (pv 3) pe_int (nomark _)) (pw_and1 (pt_cmpR (op_eqAK (K := K) rfl (Al.room_u hr)) (pe_call (G_law_take) (hr.mono (by omega)) (by rfl) X.g_law_take X.F_law_take.kp X.b_law_take .nil pass0 (pa_cons (pv 0) (pa_cons pe_int pa_nil))) pe_int (nomark _))))) (pe_tup (pa_cons pe_str pa_nil)) (pe_tup (pa_cons pe_str (pa_cons (pe_call (G_law_pick) (hr.mono (by omega)) (by rfl) X.g_law_pick X.F_law_pick.kp X.b_law_pick .nil pass0 (pa_cons (pv 0) (pa_cons (pe_call (G_law_letters) (hr.mono (by omega)) (by rfl) X.g_law_letters X.F_law_letters.kp X.b_law_letters .nil pass0 (pa_cons (pv 1) pa_nil)) pa_nil))) pa_nil)))))) pss_nil) (pss_cons (ps_if (pt_cmpR op_lt (pv 3) pe_int (nomark _)) (pss_cons (ps_set (i := 4) sc_law_weave.nd rfl (by first | exact .inl rfl | exact .inr rfl) (pe_call (G_law_weave) (hr.mono (by omega)) (by rfl) X.g_law_weave X.F_law_weave.kp X.b_law_weave .nil pass0 (pa_cons (pv 0) (pa_cons (pv 1) (pa_cons (pv 2) pa_nil))))) (pss_one (ps_ret (pe_tup (pa_cons pe_str (pa_cons (pv 4) (pa_cons (pe_call (G_law_weave) (hr.mono (by omega)) (by rfl) X.g_law_weave X.F_law_weave.kp X.b_law_weave .nil pass0 (pa_cons (pv 0) (pa_cons (pv 1) (pa_cons (pv 2) pa_nil)))) pa_nil))))))) pss_nil) (pss_cons (ps_if (pt_cmpR op_lt (pv 3) pe_int (nomark _)) (pss_one (ps_ret (pe_tup (pa_cons (pe_ix (ix_seqK (K := K) rfl) (pe_lst (pa_cons pe_str (pa_cons pe_str pa_nil))) (pe_op op_sub (pv 3) pe_int) (fun _ _ => rfl)) (pa_cons (pe_call (G_law_weave) (hr.mono (by omega)) (by rfl) X.g_law_weave X.F_law_weave.kp X.b_law_weave .nil pass0 (pa_cons (pv 0) (pa_cons (pv 1) (pa_cons (pv 2) pa_nil)))) pa_nil))))) pss_nil) (pss_cons (ps_setLc (i := 5) (own := [("k", 6)]) rfl sc_law_weave.nd rfl rfl (sw_true rfl rfl rfl (by decide +kernel)) (pi_range1 (by rfl) X.m_range (pa_cons (pe_op (op_addAK (K := K) rfl) pe_int (pe_call (G_law_take) (hr.mono (by omega)) (by rfl) X.g_law_take X.F_law_take.kp X.b_law_take .nil pass0 (pa_cons (pv 0) (pa_cons pe_int pa_nil)))) pa_nil)) (blkOk_by (own := [("k", 6)]) (N := ["draw", "scope", "left", "chance", "one", "some", "k"]) (sc := defScope s_law_weave) (by decide +kernel)) (fun _ _ _ _ _ => (pg_name (i := 6) sc_law_weave.nd rfl (by first | exact .inl rfl | exact .inr rfl))) (fun _ _ _ _ _ => pts_nil) (fun _ _ _ _ _ => (pe_call (G_law_weave) (hr.mono (by omega)) (by rfl) X.g_law_weave X.F_law_weave.kp X.b_law_weave .nil pass0 (pa_cons (pv 0) (pa_cons (pv 1) (pa_cons (pv 2) pa_nil)))))) (pss_one (ps_ret (pe_tup (pa_cons pe_str (pa_cons (pe_call (G_law_once) (hr.mono (by omega)) (by rfl) X.g_law_once X.F_law_once.kp X.b_law_once .nil pass0 (pa_cons (pv 5) pa_nil)) pa_nil))))))))))), ?_⟩
    · rintro xs O Pv ⟨d, s, sc, p, c, rfl, _⟩
      rfl
    · rintro xs O Pv ⟨d, s, sc, p, c, rfl, hsc, rfl, hc, _, hN, h9, ok, ht, q⟩
      have hp0 := phi_0 c
      repeat contradiction
      refine rs_setL ?_
      repeat contradiction
      refine rr_ixO lo_mem atI_0 ?_
      repeat contradiction
      refine ⟨[.int c], dOwn d s, 0, 0, rfl, lo_perm, rfl, ?_⟩
      refine rs_perm (O' := lOwn d p s (c - 1)) lo_perm.symm ?_
      repeat contradiction
      refine re_callF ?_
      repeat contradiction
      refine ⟨dOwn d s, [(p, .ls [.int (c - 1)])], .refl _, d, s, 12, rfl, rfl, ok, by omega, by decide, by decide, fun n s1 n0 n1 ok1 ht1 => ?_⟩
      refine rs_seq (rs_if (rt_imp (P := fun b O1 => O1 = lOwn d p s1 (c - 1) ∧ b = (decide (c - 1 ≤ 0) || decide (n < 4))) ?_ ?_))
      · repeat contradiction
        refine rr_ixO lo_mem atI_0 ?_
        repeat contradiction
        by_cases hle : c - 1 ≤ 0
        · refine ift (decide_eq_true hle) ⟨rfl, ?_⟩
          rw [decide_eq_true hle]
          rfl
        · refine iff' (decide_eq_false hle) ?_
          repeat contradiction
          exact ⟨rfl, by rw [decide_eq_false hle]; rfl⟩
      · rintro b O1 ⟨rfl, rfl⟩
        cases hb : (decide (c - 1 ≤ 0) || decide (n < 4)) with
        | true =>
          refine ift rfl ?_
          refine rs_ret (re_if (rt_imp (P := fun b O1 => ∃ s2, O1 = lOwn d p s2 (c - 1) ∧ Dr.Ok s2 ∧ s2.turn ≤ s.turn + 2) ?_ ?_))
          · repeat contradiction
            have e3 : eqD (.int n) (.int 3) = (n == 3) := rfl
            rw [e3]
            cases h3 : (n == 3) with
            | true =>
              refine ift rfl ?_
              repeat contradiction
              refine re_callF ?_
              repeat contradiction
              refine ⟨dOwn d s1, [(p, .ls [.int (c - 1)])], .refl _, d, s1, 3, rfl, rfl, ok1, by omega, by decide, by decide, fun n2 s2 m0 m1 ok2 ht2 => ?_⟩
              repeat contradiction
              exact ⟨ok2, by omega⟩
            | false =>
              refine iff' rfl ?_
              exact ⟨s1, rfl, ok1, by omega⟩
          · rintro b O1 ⟨s2, rfl, ok2, ht2⟩
            cases b with
            | true =>
              refine ift rfl ?_
              refine re_tupD ?_
              repeat contradiction
              refine ⟨rfl, ?_⟩
              exact q _ _ s2 0 (drn_none sc N c) ok2 (by omega)
            | false =>
              refine iff' rfl ?_
              obtain ⟨h3, _⟩ := scope_txts hsc
              have lt3 : (txts sc).length ≤ 3 := by rw [show (txts sc).length = sc.length from List.length_map ..]; exact h3
              obtain ⟨n1', n2'⟩ := lawL_len _ (txts sc) rfl
              have n3 : (lawL (txts sc)).length ≤ 8 := by
                rw [n1']
                have := Nat.pow_le_pow_right (show 0 < 2 by decide) lt3
                simpa using this
              have n4 : 0 < (lawL (txts sc)).length := by rw [n1']; exact Nat.pow_pos (by decide)
              refine re_tupD ?_
              repeat contradiction
              refine re_callF ?_
              repeat contradiction
              refine re_callF ?_
              repeat contradiction
              refine ⟨[], _, .refl _, txts sc, rfl, lt3, ?_⟩
              repeat contradiction
              refine ⟨dOwn d s2, [(p, .ls [.int (c - 1)])], .refl _, d, s2, _, (lawL (txts sc)).map .tup, rfl, rfl, by rw [List.length_map]; exact n4, by rw [List.length_map]; omega, rfl, ok2, by omega, fun x s3 hx ok3 ht3 => ?_⟩
              obtain ⟨m, hm, rfl⟩ := List.mem_map.mp hx
              repeat contradiction
              refine ⟨rfl, ?_⟩
              exact q _ _ s3 0 (drn_letter N c (law_letter hsc hm) h3) ok3 (by omega)
        | false =>
          refine iff' rfl ?_
          have hb1 : ¬ c - 1 ≤ 0 := by
            intro z
            rw [decide_eq_true z] at hb
            cases hb
          have hb4 : ¬ n < 4 := by
            intro z
            rw [decide_eq_true z, Bool.or_true] at hb
            cases hb
          have pg := phi_gt (c := c) (by omega)
          have pg1 := phi_gt (c := c - 1) (by omega)
          have inner : ∀ (s2 : Dr) (c2 : Int) (P2 : PV), Dr.Ok s2 → c2 ≤ c - 1 → s2.turn + 3 + 9 * phi c2 ≤ 2 ^ 40 → (∀ w c3 s3 I, Drn sc N w c2 c3 I → Dr.Ok s3 → s3.turn ≤ s2.turn + 3 * (c2 - c3) → P2 (.d w) (lOwn d p s3 c3)) → spWv N [.o d, .d (.tup (txts sc)), .o p] (lOwn d p s2 c2) P2 :=
            fun s2 c2 P2 a1 a2 a3 a4 => ⟨d, s2, sc, p, c2, rfl, hsc, rfl, by omega, by omega, by omega, by omega, a1, a3, fun w c3 s3 I b1 b2 b3 => a4 w c3 s3 I b1 b2 b3⟩
          have stay : ∀ (s2 : Dr) (c2 : Int), (lOwn d p s2 c2).Perm (lOwn d p s2 c2 ++ []) := fun s2 c2 => .of_eq (List.append_nil _).symm
          refine rs_next (rs_seq (rs_if ?_))
          repeat contradiction
          by_cases h8 : n < 8
          · refine ift (decide_eq_true h8) ?_
            repeat contradiction
            refine re_callF ?_
            repeat contradiction
            refine ⟨_, _, stay s1 (c - 1), ?_⟩
            refine inner s1 (c - 1) _ ok1 (by omega) (by omega) fun e c2 s2 I de ok2 ht2 => ?_
            have row1 := (Row.nil sc N (c - 1)).snoc de
            have p2 := phi_0 c2
            have u2 := row1.us
            have v2 := row1.ca
            simp only [List.nil_append, List.length_singleton, List.length_nil, List.length_cons] at u2 v2
            push_cast at u2 v2
            repeat contradiction
            refine re_tupD ?_
            repeat contradiction
            refine re_callF ?_
            repeat contradiction
            refine ⟨_, _, stay s2 c2, ?_⟩
            refine inner s2 c2 _ ok2 (by have := de.de; omega) (by omega) fun f c3 s3 J df ok3 ht3 => ?_
            repeat contradiction
            refine ⟨rfl, ?_⟩
            have row2 := row1.snoc df
            refine q _ c3 s3 _ (drn_knot (by omega) row2 (by simp) (wv_then de.wv df.wv) (.inl rfl) (by simp)) ok3 ?_
            have a1 := row2.ca
            omega
          · refine iff' (decide_eq_false h8) ?_
            refine rs_next (rs_seq (rs_if ?_))
            repeat contradiction
            by_cases h10 : n < 10
            · refine ift (decide_eq_true h10) ?_
              refine rs_ret (re_tupD ?_)
              repeat contradiction
              refine re_lstD ?_
              repeat contradiction
              refine ⟨rfl, ?_⟩
              repeat contradiction
              obtain ⟨u, hu, kn⟩ : ∃ u, atI [D.str "on", D.str "back"] (n - 8) = some (.str u) ∧ ∀ e, wvD sc N e = true → wvD sc (N + 1) (.tup [.str u, e]) = true ∧ (partsD (.tup [.str u, e])).getD [] = [e] := by
                have : n = 8 ∨ n = 9 := by omega
                rcases this with rfl | rfl
                · exact ⟨"on", rfl, fun e he => ⟨wv_on he, rfl⟩⟩
                · exact ⟨"back", rfl, fun e he => ⟨wv_back he, rfl⟩⟩
              refine rr_ix rfl hu ?_
              repeat contradiction
              refine re_callF ?_
              repeat contradiction
              refine ⟨_, _, stay s1 (c - 1), ?_⟩
              refine inner s1 (c - 1) _ ok1 (by omega) (by omega) fun e c2 s2 I de ok2 ht2 => ?_
              have row1 := (Row.nil sc N (c - 1)).snoc de
              have v2 := row1.ca
              simp only [List.nil_append, List.length_singleton] at v2
              push_cast at v2
              repeat contradiction
              refine ⟨rfl, ?_⟩
              obtain ⟨k1, k2⟩ := kn e de.wv
              exact q _ c2 s2 _ (drn_knot (by omega) row1 (by simp) k1 (.inl k2) (by simp)) ok2 (by omega)
            · refine iff' (decide_eq_false h10) ?_
              refine rs_next ?_
              repeat contradiction
              refine re_lc (gin_name (by decide)) (ri_rng1 ?_)
              repeat contradiction
              refine re_callF ?_
              repeat contradiction
              refine ⟨dOwn d s1, [(p, .ls [.int (c - 1)])], .refl _, d, s1, 3, rfl, rfl, ok1, by omega, by decide, by decide, fun n3 s2 m0 m1 ok2 ht2 => ?_⟩
              repeat contradiction
              refine ⟨by omega, by omega, fun (i : Nat) acc O' => ∃ c' s' I, O' = lOwn d p s' c' ∧ Row sc N acc (c - 1) c' I ∧ acc.length = i ∧ Dr.Ok s' ∧ s'.turn ≤ s.turn + 2 + 3 * ((c - 1) - c'), ⟨c - 1, s2, 0, rfl, Row.nil sc N (c - 1), rfl, ok2, by omega⟩, small1000 (by rw [ints_len]; omega), ?_, ?_⟩
              · rintro acc O' ⟨c', s3, I, rfl, row, hl, ok3, ht3⟩
                rw [ints_len] at hl
                obtain ⟨h3, hn⟩ := scope_txts hsc
                have hI := row.us
                have p3 := phi_0 c'
                have hcn := row.cn
                have hde := row.de
                have c2 : Cmp2 acc := wv_cmp2 hn h3 row.wv (fun x hx => by
                  have := mem_sum (f := cnt N) hx
                  omega) (by omega)
                repeat contradiction
                refine re_tupD ?_
                repeat contradiction
                refine re_callF ?_
                repeat contradiction
                refine ⟨[], _, .refl _, _, acc, rfl, rfl, c2, by omega, fun out ho => ?_⟩
                obtain ⟨asc, mem, ne⟩ := once_of c2 ho
                repeat contradiction
                refine ⟨rfl, ?_⟩
                have ne' : out ≠ [] := ne fun z => by rw [z] at hl; simp at hl; omega
                refine q _ c' s3 _ (drn_knot (by omega) row (by omega) (wv_mix (fun x hx => row.wv x (mem x hx)) ne' asc) (.inr ⟨out, rfl, ho⟩) ?_) ok3 (by omega)
                rw [List.map_cons, List.map_nil, List.sum_cons, List.sum_nil, paths_tup]
                have := once_sum (f := fun x => (pathsD x).length) ho
                omega
              · rintro i dd acc O' ⟨c', s3, I, rfl, row, hl, ok3, ht3⟩ hi
                obtain ⟨hi3, rfl⟩ := ints_get hi
                have hI := row.us
                have hca := row.ca
                have hde := row.de
                refine rg_name (rt_yes ?_)
                repeat contradiction
                refine re_callF ?_
                repeat contradiction
                refine ⟨_, _, stay s3 c', ?_⟩
                refine inner s3 c' _ ok3 (by omega) (by omega) fun e c4 s4 J de ok4 ht4 => ?_
                refine ⟨_, rfl, by omega, c4, s4, _, List.append_nil _, row.snoc de, by rw [List.length_append, hl]; rfl, ok4, by omega⟩
end K0
end
section
set_option Elab.async false
set_option linter.all false
set_option maxRecDepth 100000
set_option maxHeartbeats 2000000
/-! sum over a generator expression: its running total is a list of one number, of which the generator knows nothing. -/
namespace Gx
open PySem PySem.Spec PyProof.Rows L2 GenW
/-- an item is handed out; the consumer may write the list at S -/
def gYS (Y : Cx) (σ0 : L2.St) (cons : Cons) (N0 : Nat) (S : Addr) : Protocol := fun n s₀ v s kap =>
  ∃ j y H Nx, n + 1 + j = N0 ∧ RelV y v ∧ Inv Y [] σ0 H s ∧ cons j y H Nx ∧ ∀ (s'' : Shared) (H'' : Hp), (∀ b o, b ≠ S → s.heap.get? b = some o → s''.heap.get? b = some o) → (∀ b, b ≠ S → H'' b = H b) → Inv Y [] σ0 H'' s'' → Nx H'' → 1 ≤ n ∧ kap (.send .none) s''
section
variable {Y : Cx} {σ0 : L2.St} {cons : Cons} {Qe : Nat → Hp → Prop} {N0 : Nat} {A : Around} {elt tg iter : Expr} {ifs : List Expr} {scope : Scope} {pos : Pos} {it : Addr} {fp : List Addr} {tn : Nat → Heap → Prop} {J : It} {g : TG} {tt : TT} {te : TE} {vs : List Nat}
  {W : Nat → Nat → Nat → Hp → Prop}
theorem gx_loopS (hA : A.over (gcode elt tg iter ifs scope pos it Y.env) [] = Y.A) (hco : Y.env.scope.isCoroutine = false) (hc : Y.calm = true) {S : Addr} (hS : S ∉ fp) (T : Turn Y.prog Y.w Y.K tg J fp it tn) (hxe : Y.xe = fun _ _ => False)
    (stat : ∀ {σ' : L2.St} {H' : Hp} {s' : Shared}, Inv Y [] σ' H' s' → (∀ b ∈ fp, H' b = none) → ∀ b ∈ fp, FpOk Y [] H' b)
    (pg : PG Y tg g) (pt : PTs Y ifs tt) (pe : PE Y elt te)
    (turn : ∀ i m j H, W i m j H → (J.stop i H ∧ Qe j H) ∨ (J.go i H ∧ ∃ Nx : Nat → Hp → Prop, (∀ j' H', Nx j' H' → ∃ m', m' < m ∧ W (i + 1) m' j' H') ∧ ∀ x H', J.yld i H x H' → g x σ0 H' fun σ2 H2 => wipe σ2 vs = σ0 ∧ tt σ2 H2 fun b H3 =>
      if b = true then te σ2 H3 fun y H4 => cons j y H4 (Nx (j + 1)) else Nx j H3)) :
    ∀ (m i j n : Nat) (s₀ s : Shared) (H : Hp), n + j = N0 → m + 1 ≤ n → W i m j H → Inv Y [] σ0 H s → tn i s.heap → (∀ b ∈ fp, H b = none) →
      Seg (model Y.prog Y.w) A (fun n s₀ r s₁ => r = .ok .next ∧ gE Y σ0 Qe N0 n s₀ s₁) (gYS Y σ0 cons N0 S) n s₀ (gcode elt tg iter ifs scope pos it Y.env)
        ((model Y.prog Y.w).den (gcode elt tg iter ifs scope pos it Y.env)) [] s := by
  have nox : ∀ {α : Type} {t : Sem α} {Q Q' : α → Shared → Prop} {E : Value → Shared → Prop} {s : Shared}, wpAny (model Y.prog Y.w) Y.A t Q Y.xe s → (∀ a s, Q a s → Q' a s) → wpAny (model Y.prog Y.w) Y.A t Q' E s := fun h hq => by
    rw [hxe] at h
    exact wpAny_mono h hq fun _ _ z => False.elim z
  intro m
  induction m using Nat.strongRecOn with
  | ind m ih =>
    intro i j n s₀ s H hn hm w I st n0
    show Seg _ A _ _ _ s₀ _ ((compTurn (.GeneratorExp elt [⟨tg, iter, ifs, 0⟩] scope pos) 0 (.ref it) .none Y.env).onRaise (leaving Y.env)) [] s
    rw [compTurn_gen, Sem.onRaise_eq_wrap]
    refine seg_bind_wrap (wpAny_standAt ?_)
    rcases turn i m j H w with ⟨stop, q⟩ | ⟨go, Nx, hNx, step⟩
    · refine seg_bind_wrap ?_
      rw [hA]
      refine thnF (T.done Y rfl rfl rfl hc i [] s σ0 H (fun _ _ => False) I (stat I n0) st stop) fun r s1 ⟨hr, I1⟩ => ?_
      subst hr
      exact seg_end (.ok .next) ⟨rfl, j, H, hn, I1, q⟩
    · refine seg_bind_wrap ?_
      rw [hA]
      refine thnF (T.item Y rfl rfl rfl hc i [] s σ0 H (fun _ _ => False) I (stat I n0) st go) fun r s1 ⟨u, hr, h1⟩ => ?_
      subst hr
      refine seg_bind_wrap ?_
      rw [hA]
      refine thnF h1 fun _ s2 ⟨x, H2, I2, r2, y2, st2, n2⟩ => ?_
      have I2' := I2.pinned (stat I2 n2) (T.obj _ _ st2)
      refine seg_bind_wrap ?_
      rw [hA]
      refine nox (pg.run _ s2 σ0 H2 x u _ I2' r2 (step x H2 y2)) fun _ s3 ⟨σ3, H3, I3, hw3, q3⟩ => ?_
      refine seg_bind_wrap ?_
      rw [hA]
      refine nox (pt.run _ s3 σ3 H3 _ I3 q3) fun b s4 ⟨H4, I4, q4⟩ => ?_
      -- a state within the turn, as one between turns
      have back : ∀ {s' : Shared} {H' : Hp}, Inv Y ([] ++ pinsAt fp s2.heap) σ3 H' s' → Inv Y [] σ0 H' s' ∧ tn (i + 1) s'.heap ∧ ∀ b ∈ fp, H' b = none := fun {s' H'} I' => by
        have pin' : ∀ b ∈ fp, ∀ o, s2.heap.get? b = some o → s'.heap.get? b = some o ∧ H' b = none := fun b hb o e =>
          let z := I'.pin (b, o) (List.mem_append_right _ (List.mem_append_right _ (mem_pinsAt hb e)))
          ⟨z.1, z.2.1⟩
        have hl : σ0.length = σ3.length := by rw [← hw3, wipe_length]
        refine ⟨(I'.unpinned (pins := [])).weak hl fun j v e => ?_, T.keep _ _ _ st2 fun b hb o e => (pin' b hb o e).1, fun b hb => ?_⟩
        · rw [← hw3] at e
          exact (wipe_some e).1
        · obtain ⟨o, e, _⟩ := T.obj _ _ st2 b hb
          exact (pin' b hb o e).2
      cases b with
      | false =>
        simp only [Bool.false_eq_true, if_false] at q4 ⊢
        obtain ⟨m', hm', w'⟩ := hNx j H4 q4
        obtain ⟨I5, st5, n5⟩ := back I4
        exact seg_again rfl (ih m' hm' (i + 1) j n s₀ s4 H4 hn (by omega) w' I5 st5 n5)
      | true =>
        simp only [if_true] at q4 ⊢
        have hy : ∀ v, yieldOut Y.env v = yieldValue v := fun v => by simp only [yieldOut, hco, Bool.false_eq_true, if_false]
        simp only [hy]
        rw [Sem.bind_eq_wrap', Sem.bind_eq_wrap', Sem.wrap_wrap, Sem.wrap_wrap]
        refine seg_wrap ?_
        rw [hA]
        refine nox (pe.run _ s4 σ3 H4 _ I4 q4) fun v s5 ⟨y, H5, I5, r5, q5⟩ => ?_
        obtain ⟨I6, st6, n6⟩ := back I5
        cases n with
        | zero => omega
        | succ n =>
          refine seg_at (seg_yield rfl rfl rfl ⟨j, y, H5, Nx (j + 1), by omega, r5, I6, q5, fun s'' H'' e1 e2 I7 hx => ?_⟩)
          obtain ⟨m', hm', w'⟩ := hNx (j + 1) H'' hx
          exact ⟨by omega, seg_again rfl (ih m' hm' (i + 1) (j + 1) n s'' s'' H'' (by omega) (by omega) w' I7 (T.keep _ _ _ st6 fun b hb o e => e1 b o (fun z => hS (z ▸ hb)) e) fun b hb => by rw [e2 b (fun z => hS (z ▸ hb))]; exact n6 b hb)⟩


variable {prog : Program} {w : World} {B : Around} {a S : Addr} {gi : Nat} {go : Obj}
def GReadyS (prog : Program) (w : World) (B : Around) (Y : Cx) (σ0 : L2.St) (cons : Cons) (Qe : Nat → Hp → Prop) (N0 : Nat) (S a : Addr) (gi n : Nat) (s : Shared) : Prop :=
  1 ≤ n ∧ s.heap.IsGen a gi ∧ s.heap.NoLimit ∧ AllBare s.gens ∧ ∃ gs, s.gens[gi]? = some gs ∧
    gs.Goes (model prog w) B.in1 (fun n s₀ r s₁ => r = .ok .next ∧ gE Y σ0 Qe N0 n s₀ s₁) (gYS Y σ0 cons N0 S) n (.send .none) (s.setGen gi .running)
theorem gx_nextS {n : Nat} {s : Shared} {Q : Option Value → Shared → Prop} {E : Value → Shared → Prop} (hh : B.handled = none) (hroom : B.depth < recursionLimit)
    (hgen : ∀ {H : Hp} {s' : Shared}, Inv Y [] σ0 H s' → s'.heap.IsGen a gi ∧ s'.heap.NoLimit)
    (hr : GReadyS prog w B Y σ0 cons Qe N0 S a gi n s)
    (hi : ∀ j v y H Nx s', n + j = N0 → RelV y v → Inv Y [] σ0 H s' → cons j y H Nx → (∀ (s'' : Shared) (H'' : Hp), (∀ b o, b ≠ S → s'.heap.get? b = some o → s''.heap.get? b = some o) → (∀ b, b ≠ S → H'' b = H b) → s''.gens = s'.gens → Inv Y [] σ0 H'' s'' → Nx H'' → ∃ n', n = n' + 1 ∧ GReadyS prog w B Y σ0 cons Qe N0 S a gi n' s'') → Q (some v) s')
    (he : ∀ j H s', n + j = N0 → Inv Y [] σ0 H s' → Qe j H → Q none s') :
    wpAny (model prog w) B (pyNext (.ref a)) Q E s := by
  obtain ⟨hn1, h1, h2, h3, gs, h4, h5⟩ := hr
  have hlt : gi < s.gens.size := by
    rcases Nat.lt_or_ge gi s.gens.size with z | z
    · exact z
    · rw [Array.getElem?_eq_none z] at h4; cases h4
  refine wpAny_gsz (n := s.gens.size) (Nat.le_refl _) ?_
  refine wpAny_pyNext_genexpQ hh h2 hroom h1 h4 h5 (fun v s1 gs' hb hv hsz => ?_) (fun s1 hp h' hk hsz => ?_)
  · obtain ⟨j, y, H, Nx, hn, rv, I, hc, hgo⟩ := hv
    rw [setGen_size] at hsz
    have hb' : AllBare (s1.setGen gi gs').gens := allBare_setGen I.bare hb
    have I' : Inv Y [] σ0 H (s1.setGen gi gs') := inv_same I rfl rfl hb'
    refine hi j v y H Nx _ (by omega) rv I' hc fun s'' H'' k1 k2 k3 I'' nx => ?_
    obtain ⟨q1, q⟩ := hgo (s''.setGen gi .running) H'' k1 k2 (inv_same I'' rfl rfl (allBare_setGen I''.bare rfl)) nx
    cases n with
    | zero => exact q.elim
    | succ n =>
      obtain ⟨z1, z2⟩ := hgen I''
      exact ⟨n, rfl, q1, z1, z2, I''.bare, gs', by rw [k3]; exact setGen_at (Nat.lt_of_lt_of_le hlt hsz), q⟩
  · obtain ⟨j, H, hn, I, q⟩ := hp
    have hb' : AllBare (s1.setGen gi .finished).gens := allBare_setGen I.bare rfl
    have I' : Inv Y [] σ0 H (s1.setGen gi .finished) := inv_same I rfl rfl hb'
    refine he j H _ hn ?_ q
    exact I'.kept (t' := s1.toks) hk

/-- the consumer's wish: a number; the total before it stands at S -/
def consS (tot : Nat → Int) (S : Addr) : Cons := fun j y H Nx => ∃ z : Int, y = .int z ∧ H S = some (.lst [.int (tot j)]) ∧ tot (j + 1) = tot j + z ∧ Nx (upd H S (.lst [.int (tot (j + 1))]))
def qeS (tot : Nat → Int) (Q : VK) (S : Addr) : Nat → Hp → Prop := fun j H => H S = some (.lst [.int (tot j)]) ∧ Q (.int (tot j)) H
theorem upd_twice {H : Hp} {a : Addr} {x y : HO} : upd (upd H a x) a y = upd H a y := by
  funext b
  by_cases h : b = a
  · subst h; rw [upd_same, upd_same]
  · rw [upd_ne h, upd_ne h, upd_ne h]
theorem tot_at {X : Cx} {pins : List (Addr × Obj)} {σ : L2.St} {H : Hp} {s : Shared} {i : Int} (I : Inv X pins σ H s) (h : H S = some (.lst [.int i])) : ∃ t n, s.heap.get? S = some { cls := .type "list", data := .seq #[.int i t] n } := by
  obtain ⟨its, n, r, e, _⟩ := I.lst h
  cases r with
  | cons r1 r2 =>
    cases r2
    obtain ⟨t, rfl⟩ := r1
    exact ⟨t, n, e⟩
theorem sum_gx {tot : Nat → Int} {Q : VK} {R : Result → Shared → Prop} (hh : B.handled = none) (hroom : B.depth < recursionLimit)
    (hgen : ∀ {H : Hp} {s' : Shared}, Inv Y [] σ0 H s' → s'.heap.IsGen a gi ∧ s'.heap.NoLimit)
    (hT : ∀ (i : Int) (t : Tok) H s', Inv Y [] σ0 H s' → Q (.int i) H → R (.ok (.ret (.int i t))) s') :
    ∀ (n j : Nat) (s : Shared) (st : Int), (st = 0 ∨ st = 2) → n + j = N0 → GReadyS prog w B.in1 Y σ0 (consS tot S) (qeS tot Q S) N0 S a gi n s → (∃ t c, s.heap.get? S = some { cls := .type "list", data := .seq #[.int (tot j) t] c }) →
      codeAny (model prog w) B (.builtin "sum.loop" ⟨[.ref a, .ref S, rawInt st, rawInt 0], []⟩) R s := by
  intro n
  induction n with
  | zero => intro j s st _ _ h; exact absurd h.1 (by omega)
  | succ n ih =>
    intro j s st hst hj hr hS0
    obtain ⟨tA, c, hS⟩ := hS0
    refine codeAny_builtin F.entry_sum_loop ?_
    rw [Around.under_plainId F.plain_sum_loop _]
    show wpAny _ B.in1 (seqItems? (.ref S) >>= _) _ _ s
    refine wpAny_bind (wpAny_seqItems hS rfl ?_)
    show wpAny _ B.in1 (tryCatch (pyNext (.ref a)) _ >>= _) _ _ s
    refine wpAny_bind (wpAny_tryCatch (gx_nextS (B := B.in1) hh hroom hgen hr (fun j2 v y H Nx s' hn rv I hc hgo => ?_) (fun j2 H s' hn I q => ?_)))
    · obtain rfl : j2 = j := by omega
      obtain ⟨z, rfl, hHS, htot, hNx⟩ := hc
      obtain ⟨t, rfl⟩ := rv
      obtain ⟨t2, n', hS'⟩ := tot_at I hHS
      have fin : ∀ (tk t' : Tok) (f : Array Value → Array Value), f #[Value.int (tot j2) t2] = #[.int (tot j2 + z) tk] → ∀ st', (st' = 0 ∨ st' = 2) →
          codeAny (model prog w) B (.builtin "sum.loop" ⟨[.ref a, .ref S, rawInt st', rawInt 0], []⟩) R { s' with heap := s'.heap.update S (Obj.mapSeq f), toks := t' } := fun tk t' f hf st' hst' => by
        have I2 : Inv Y [] σ0 (upd H S (.lst [.int (tot (j2 + 1))])) { s' with heap := s'.heap.update S (Obj.mapSeq f), toks := t' } := I.lset (its := [.int (tot j2) t2]) (its' := [.int (tot j2 + z) tk]) hHS hS' (by exact hf) (by rw [htot]; exact .cons ⟨_, rfl⟩ .nil) (show 1 ≤ sizeLine by decide)
        obtain ⟨n2, e2, r2⟩ := hgo { s' with heap := s'.heap.update S (Obj.mapSeq f), toks := t' } (upd H S (.lst [.int (tot (j2 + 1))])) (fun b o hb e => (Heap.get?_update_other _ _ (Ne.symm hb)).trans e) (fun b hb => upd_ne hb) rfl I2 hNx
        obtain rfl : n2 = n := by omega
        exact ih (j2 + 1) _ st' hst' (by omega) r2 (tot_at I2 upd_same)
      have fin2 : ∀ (tk tk2 t' : Tok) (st' : Int), (st' = 0 ∨ st' = 2) →
          codeAny (model prog w) B (.builtin "sum.loop" ⟨[.ref a, .ref S, rawInt st', rawInt 0], []⟩) R { s' with heap := (s'.heap.update S (Obj.mapSeq fun _ => #[.int (tot j2 + z) tk])).update S (Obj.mapSeq fun _ => #[.int (tot j2 + z) tk2]), toks := t' } := fun tk tk2 t' st' hst' => by
        have I1 : Inv Y [] σ0 (upd H S (.lst [.int (tot (j2 + 1))])) { s' with heap := s'.heap.update S (Obj.mapSeq fun _ => #[.int (tot j2 + z) tk]), toks := t' } := I.lset (its := [.int (tot j2) t2]) (its' := [.int (tot j2 + z) tk]) hHS hS' rfl (by rw [htot]; exact .cons ⟨_, rfl⟩ .nil) (show 1 ≤ sizeLine by decide)
        obtain ⟨t3, n1, e1⟩ := tot_at I1 upd_same
        have I2 := I1.lset (t' := t') (its := [.int (tot (j2 + 1)) t3]) (its' := [.int (tot j2 + z) tk2]) (f := fun _ => #[.int (tot j2 + z) tk2]) upd_same e1 rfl (by rw [htot]; exact .cons ⟨_, rfl⟩ .nil : Vals [.int (tot (j2 + 1))] [.int (tot j2 + z) tk2]) (show 1 ≤ sizeLine by decide)
        rw [upd_twice] at I2
        obtain ⟨n2, e2, r2⟩ := hgo { s' with heap := (s'.heap.update S (Obj.mapSeq fun _ => #[.int (tot j2 + z) tk])).update S (Obj.mapSeq fun _ => #[.int (tot j2 + z) tk2]), toks := t' } (upd H S (.lst [.int (tot (j2 + 1))])) (fun b o hb e => (Heap.get?_update_other _ _ (Ne.symm hb)).trans ((Heap.get?_update_other _ _ (Ne.symm hb)).trans e)) (fun b hb => upd_ne hb) rfl I2 hNx
        obtain rfl : n2 = n := by omega
        exact ih (j2 + 1) _ st' hst' (by omega) r2 (tot_at I2 upd_same)
      rcases hst with rfl | rfl
      · show wpAny _ B.in1 (if (_ : Bool) = true then (mkInt (tot j2 + z) >>= _) else _) _ _ _
        split
        · refine wpAny_bind (wpAny_mkInt ?_)
          show wpAny _ B.in1 (updateSeq S (fun _ => #[.int (tot j2 + z) s'.toks]) >>= _) _ _ _
          refine wpAny_bind ?_
          exact wpAny_updateSeq hS' rfl (wpAny_pure ⟨plainId_quiet F.plain_sum_loop _, fin _ _ _ rfl 0 (.inl rfl)⟩)
        · refine wpAny_bind (wpAny_rule ?_)
          refine wpAny_bind (wpAny_attempt (wpAny_holding (wpAny_add_int ?_)))
          show wpAny _ B.in1 (updateSeq S (fun _ => #[.int (tot j2 + z) s'.toks]) >>= _) _ _ _
          refine wpAny_bind (wpAny_updateSeq hS' rfl ?_)
          have hS₂ := Heap.get?_update_self (Obj.mapSeq fun _ => #[Value.int (tot j2 + z) s'.toks]) hS' rfl
          refine wpAny_bind (wpAny_letGo ?_)
          exact wpAny_bind (wpAny_updateSeq hS₂ rfl (wpAny_pure ⟨plainId_quiet F.plain_sum_loop _, fin2 _ _ _ 2 (.inr rfl)⟩))
      · show wpAny _ B.in1 ((holding [Value.int z t] (binaryOp .Add (.int (tot j2) tA) (.int z t))).attempt >>= _) _ _ _
        refine wpAny_bind (wpAny_attempt (wpAny_holding (wpAny_add_int ?_)))
        show wpAny _ B.in1 (updateSeq S (fun _ => #[.int (tot j2 + z) s'.toks]) >>= _) _ _ _
        refine wpAny_bind (wpAny_updateSeq hS' rfl ?_)
        have hS₂ := Heap.get?_update_self (Obj.mapSeq fun _ => #[Value.int (tot j2 + z) s'.toks]) hS' rfl
        refine wpAny_bind (wpAny_letGo ?_)
        exact wpAny_bind (wpAny_updateSeq hS₂ rfl (wpAny_pure ⟨plainId_quiet F.plain_sum_loop _, fin2 _ _ _ 2 (.inr rfl)⟩))
    · obtain rfl : j2 = j := by omega
      exact wpAny_pure (hT _ _ H s' I q.2)
end
/-- what a generator expression asks: its iterator, then turn by turn -/
def tGenS (P : Addr) (own : List Str) (cp : List (Str × Nat)) (wi : TI) (g : TG) (tt : TT) (te : TE) (cons : Addr → Cons) (Qe : Addr → Nat → Hp → Prop) : L2.St → Hp → Prop := fun σ H => wi σ H fun J H1 => GxR.TabG H1 P ∧ ∀ H2, GxR.Tabbed P H1 H2 →
  ∀ S, H2 S = none → ∃ W : Nat → Nat → Nat → Hp → Prop, (∃ m, W 0 m 0 (upd H2 S (.lst [.int 0]))) ∧ ∀ i m j H, W i m j H → (J.stop i H ∧ Qe S j H) ∨ (J.go i H ∧ ∃ Nx : Nat → Hp → Prop, (∀ j' H', Nx j' H' → ∃ m', m' < m ∧ W (i + 1) m' j' H') ∧
    ∀ x H', J.yld i H x H' → g x (gS own cp σ) H' fun σ2 H2 => wipe σ2 (List.range own.length) = gS own cp σ ∧ tt σ2 H2 fun b H3 => if b = true then te σ2 H3 fun y H4 => cons S j y H4 (Nx (j + 1)) else Nx j H3)

/-- a made generator, for its consumer, who lays a list first -/
def GMdS (X : Cx) (pins : List (Addr × Obj)) (σ : L2.St) (cons : Addr → Cons) (Qe : Addr → Nat → Hp → Prop) (v : Value) (s : Shared) : Prop :=
  ∃ (a : Addr) (gi : Nat) (Y : Cx) (σ0 : L2.St) (H5 : Hp), v = .ref a ∧ (∀ {H : Hp} {s' : Shared}, Inv Y [] σ0 H s' → s'.heap.IsGen a gi ∧ s'.heap.NoLimit) ∧
    (∀ {H : Hp} {s' : Shared}, Inv Y [] σ0 H s' → Inv X pins σ H s') ∧ Inv Y [] σ0 H5 s ∧
    ∀ s6 : Shared, (∀ b o, s.heap.get? b = some o → s6.heap.get? b = some o) → s6.gens = s.gens → Inv Y [] σ0 (upd H5 s.heap.objs.size (.lst [.int 0])) s6 →
      ∃ N0, GReadyS X.prog X.w X.A.in1 Y σ0 (cons s.heap.objs.size) (Qe s.heap.objs.size) N0 s.heap.objs.size a gi N0 s6

section
variable {X : Cx} {pins : List (Addr × Obj)} {σ : L2.St} {H : Hp} {s : Shared}
theorem gx_genS {c P : Addr} {elt tg iter : Expr} {ifs : List Expr} {gpos : Pos} {scope : Scope} {own : List Str} {cp : List (Str × Nat)} {wi : TI} {g : TG} {tt : TT} {te : TE} {k : Nat} {cons : Addr → Cons} {Qe : Addr → Nat → Hp → Prop} {Q' : Value → Shared → Prop}
    (hr : Room (k + 4) X.A) (hcalm : X.calm = true) (TB : GxR.TabB X.base X.mg c P) (hcode : X.env.code = .ref c) (ok : GOk X.N X.env.scope scope own cp) (hi : PI X tg iter wi)
    (hpg : ∀ Ag s H C cl code fp pn, Room k Ag → PG (gX X Ag own cp s H (genEnv scope cl C code builtinsNs X.env) fp pn) tg g)
    (hpt : ∀ Ag s H C cl code fp pn, Room k Ag → PTs (gX X Ag own cp s H (genEnv scope cl C code builtinsNs X.env) fp pn) ifs tt)
    (hpe : ∀ Ag s H C cl code fp pn, Room k Ag → PE (gX X Ag own cp s H (genEnv scope cl C code builtinsNs X.env) fp pn) elt te)
    (hs : ∀ v, genFold iter X.env v = pure v) (I : Inv X pins σ H s) (h : tGenS P own cp wi g tt te cons Qe σ H)
    (hQ : ∀ v s5, GMdS X pins σ cons Qe v s5 → Q' v s5) :
    wpAny (model X.prog X.w) X.A (eval (.GeneratorExp elt [⟨tg, iter, ifs, 0⟩] scope gpos) X.env) Q' X.xe s := by
  have hfree : ∀ y ∈ scope.names, y.2 = .free → ∃ c, X.env.cells.lookup y.1 = some c := fun y hy e => by
    rcases ok.free y hy e with k | k
    · exact I.ok.has _ (.inl k)
    · exact I.ok.has _ (.inr k)
  refine wpAny_GeneratorExp_make ok.co (closure_ok hfree) ok.nocell ok.dot ok.kind (by have := hr.dp; omega) ?_ hs
  refine thn (hi.run pins s σ H _ I h) fun xv s1 h1 => thn h1 fun itv s2 h2 => ?_
  obtain ⟨it, fp, tn, J, H2, rfl, I2, T, st2, f2, ⟨ps, hP, ht⟩, hW⟩ := h2
  have hPs : s2.heap.get? P = some { cls := .none, data := .fields ps } := I2.hok P _ hP
  have hPlt : P < s2.heap.objs.size := Heap.lt_size hPs
  have cd : PySem.W.CodeHd s2.heap c P := TB.code.keeps fun b u e => I2.bk b u e
  have nPfp : ∀ b ∈ fp, b ≠ P := fun b hb z => by
    have := (f2 b hb).1
    rw [z, hP] at this
    cases this
  refine ⟨I2.nolimit, ?_⟩
  -- the code is there, the table may have grown
  have cont : ∀ (code : Value) (h3 : Heap) (tk : Nat) (ps' : Array Value), Heap.ExtBut P s2.heap h3 → s2.heap.objs.size ≤ h3.objs.size → h3.get? P = some { cls := .none, data := .fields ps' } → (∃ more, ps' = ps ++ more) → TriplesOk ps'.toList →
      wpAny (model X.prog X.w) X.A (builtinsFor X.env.globals X.env.builtins) (fun bi s₄ =>
        ∀ h', h'.Ns s₄.heap.objs.size (fun y => if y = ".0" then some (.ref it) else none) → Heap.SameBut s₄.heap.objs.size (s₄.heap.push { cls := .type "frame", data := .dict #[] }) h' →
          Q' (.ref h'.objs.size) { s₄ with
            gens := s₄.gens.push (.fresh (.compStart (.GeneratorExp elt [⟨tg, iter, ifs, 0⟩] scope gpos) 0 (.ref it) .none (genEnv scope (cloFrom X.env.cells scope.names []) s₄.heap.objs.size code bi X.env))),
            toks := s₄.toks + 1 + 1 + 1,
            heap := h'.push { cls := .type "generator", data := .fields #[.int s₄.gens.size 0, .str "<genexpr>" (s₄.toks + 1), .str (X.env.qual ++ "<genexpr>") (s₄.toks + 1 + 1)] } }) X.xe { s2 with heap := h3, toks := tk } := by
    intro code h3 tk ps' hx hsz hP3 hmore ht3
    obtain ⟨more, em⟩ := hmore
    obtain ⟨bm, ob, e1, e2, e3, e4, e5, e6, e7, e8⟩ := TB.bm
    have keep3 : ∀ b u, b ≠ P → s2.heap.get? b = some u → h3.get? b = some u := fun b u hb e => hx b u hb e
    refine wpAny_builtinsFor (m := X.mg) (by rw [I2.ok.glob]; exact (I2.mod.glob.keeps I2.bk).extBut hx TB.gP) e1 e2 (keep3 _ _ e4 (I2.bk _ _ e5)) e6 e7 e8 ?_
    have I3 : Inv X pins σ (upd H2 P (.tbl (ps ++ more))) { s2 with heap := h3, toks := tk } := by
      have z := GxR.inv_tab (more := more) (h' := h3) (g' := s2.gens) (d' := s2.drawn) (t' := tk) I2 hP keep3 (by rw [← em]; exact hP3) I2.bare
      exact z
    intro h' hns hsb
    have hk1 : ∀ b o, h3.get? b = some o → h'.get? b = some o := fun b o e => hsb.extBut b o (Nat.ne_of_lt (Heap.lt_size e)) (Heap.get?_push_of_some _ e)
    have szh : h'.objs.size = h3.objs.size + 1 := by rw [hsb.1, Heap.size_push]
    generalize hgo : ({ cls := .type "generator", data := .fields #[.int s2.gens.size 0, .str "<genexpr>" (tk + 1), .str (X.env.qual ++ "<genexpr>") (tk + 1 + 1)] } : Obj) = go
    have hk2 : ∀ b o, h3.get? b = some o → (h'.push go).get? b = some o := fun b o e => Heap.get?_push_of_some _ (hk1 b o e)
    have hat : (h'.push go).get? h'.objs.size = some go := Heap.get?_push_size _ (by rw [← hgo]; rfl)
    have f3 : ∀ b ∈ fp, FpOk X pins (upd H2 P (.tbl (ps ++ more))) b ∧ b < h3.objs.size := fun b hb => by
      obtain ⟨o, e, _⟩ := T.obj _ _ st2 b hb
      refine ⟨⟨by rw [upd_ne (nPfp b hb)]; exact (f2 b hb).1, (f2 b hb).2⟩, Nat.lt_of_lt_of_le (Heap.lt_size e) hsz⟩
    have st3 : tn 0 (h'.push go) := T.keep _ _ _ st2 fun b hb o e => hk2 b o (keep3 b o (nPfp b hb) e)
    have ag : h'.objs.size ≠ h3.objs.size := by rw [szh]; exact Nat.succ_ne_self _
    have hAd : X.A.in1.in1.over (gcode elt tg iter ifs scope gpos it (genEnv scope (cloFrom X.env.cells scope.names []) h3.objs.size code builtinsNs X.env)) [] = X.A.in1.in1.deeper (genEnv scope (cloFrom X.env.cells scope.names []) h3.objs.size code builtinsNs X.env) := over_gen
    have hrA : Room k (X.A.in1.in1.deeper (genEnv scope (cloFrom X.env.cells scope.names []) h3.objs.size code builtinsNs X.env)) :=
      ((((hr.in1).in1).deeper _).mono (by omega))
    have J0 := gx_start (Ag := X.A.in1.in1.deeper (genEnv scope (cloFrom X.env.cells scope.names []) h3.objs.size code builtinsNs X.env)) (code := code) (h5 := h'.push go)
      (g5 := s2.gens.push (.fresh (.compStart (.GeneratorExp elt [⟨tg, iter, ifs, 0⟩] scope gpos) 0 (.ref it) .none (genEnv scope (cloFrom X.env.cells scope.names []) h3.objs.size code builtinsNs X.env))))
      (t5 := tk + 1 + 1 + 1) (pn := [(h'.objs.size, go)]) I3 ok hr.hd (Around.frames_deeper I2.ok.frames) f3 hk2 (hns.push _) (I2.bare.push rfl) (fun p hp => by
        rw [List.mem_singleton.mp hp]
        refine ⟨hat, I3.hok.fresh (by show h3.objs.size ≤ h'.objs.size; omega), ag, fun z => ?_, fun v q => by rw [← hgo] at q; cases q⟩
        have z2 := I3.stkFree _ z
        rcases List.mem_cons.mp (I3.stkSub _ z) with y | y
        · have := I3.lt
          rw [← y] at this
          have t9 : h'.objs.size < h3.objs.size := this
          omega
        · exact I3.nofs (a := h'.objs.size) (by show h3.objs.size ≤ h'.objs.size; omega) y)
    generalize hge : genEnv scope (cloFrom X.env.cells scope.names []) h3.objs.size code builtinsNs X.env = ge at hAd hrA J0
    have hgesc : ge.scope = scope := by rw [← hge]; rfl
    have pgY := hpg (X.A.in1.in1.deeper ge) { s2 with heap := h3, toks := tk } (upd H2 P (.tbl (ps ++ more))) h3.objs.size (cloFrom X.env.cells scope.names []) code fp [(h'.objs.size, go)] (by rw [hge] at *; exact hrA)
    have ptY := hpt (X.A.in1.in1.deeper ge) { s2 with heap := h3, toks := tk } (upd H2 P (.tbl (ps ++ more))) h3.objs.size (cloFrom X.env.cells scope.names []) code fp [(h'.objs.size, go)] hrA
    have peY := hpe (X.A.in1.in1.deeper ge) { s2 with heap := h3, toks := tk } (upd H2 P (.tbl (ps ++ more))) h3.objs.size (cloFrom X.env.cells scope.names []) code fp [(h'.objs.size, go)] hrA
    rw [hge] at pgY ptY peY
    refine hQ _ _ ⟨h'.objs.size, s2.gens.size, gX X (X.A.in1.in1.deeper ge) own cp { s2 with heap := h3, toks := tk } (upd H2 P (.tbl (ps ++ more))) ge fp [(h'.objs.size, go)], gS own cp σ, upd H2 P (.tbl (ps ++ more)), rfl, ?_, ?_, J0, fun s6 k6 g6 I6 => ?_⟩
    · intro H' s' I'
      have q := (I'.pin (h'.objs.size, go) (List.mem_append_left _ (List.mem_singleton.mpr rfl))).1
      exact ⟨⟨go, _, _, q, by rw [← hgo], by rw [← hgo], by rw [← hgo]⟩, I'.nolimit⟩
    · intro H' s' I'
      exact I3.call' (ch := fp) I'.os I'.base I'.hok I'.bare fun b hb => ⟨(f3 b hb).1.2.2.2.1, (f3 b hb).1.2.1, (f3 b hb).1.2.2.2.2.1, (f3 b hb).1.2.2.2.2.2⟩
    · generalize hSa : (h'.push go).objs.size = Sa at I6
      have hSa2 : h3.objs.size ≤ Sa := by rw [← hSa, Heap.size_push]; omega
      have nSfp : Sa ∉ fp := fun z => absurd (Nat.lt_of_lt_of_le (f3 Sa z).2 hSa2) (Nat.lt_irrefl _)
      obtain ⟨W, ⟨m0, w0⟩, turn⟩ := hW (upd H2 P (.tbl (ps ++ more))) ⟨⟨ps ++ more, upd_same, by rw [← em]; exact ht3⟩, fun b hb => upd_ne hb⟩ Sa (I3.hok.fresh hSa2)
      have st6 : tn 0 s6.heap := T.keep _ _ _ st3 fun b hb o e => k6 b o e
      have I6' : Inv (gX X (X.A.in1.in1.deeper ge) own cp { s2 with heap := h3, toks := tk } (upd H2 P (.tbl (ps ++ more))) ge fp [(h'.objs.size, go)]) [] (gS own cp σ) (upd (upd H2 P (.tbl (ps ++ more))) Sa (.lst [.int 0])) s6 := I6
      refine ⟨m0 + 1, ?_⟩
      have hgs := (congrArg (fun z => z[s2.gens.size]?) g6).trans (Array.getElem?_push_size ..)
      refine ⟨by omega, ?_, I6'.nolimit, I6'.bare, _, hgs, rfl, ?_⟩
      · exact ⟨go, _, _, k6 _ _ hat, by rw [← hgo], by rw [← hgo], by rw [← hgo]⟩
      · refine seg_begin (prog := X.prog) (w := X.w) rfl (fun A Q E q => T.self A 0 _ Q E st6 q) ?_
        refine gx_loopS (Y := gX X (X.A.in1.in1.deeper ge) own cp { s2 with heap := h3, toks := tk } (upd H2 P (.tbl (ps ++ more))) ge fp [(h'.objs.size, go)]) (vs := List.range own.length) (W := W) hAd (by show ge.scope.isCoroutine = false; rw [hgesc]; exact ok.co) rfl nSfp T rfl (fun {σ' H' s'} I' hn b hb => ?_) pgY ptY peY turn
          m0 0 0 (m0 + 1) _ _ (upd (upd H2 P (.tbl (ps ++ more))) Sa (.lst [.int 0])) (by omega) (by omega) w0 (inv_same I6' rfl rfl (allBare_setGen I6'.bare rfl)) st6 (fun b hb => (upd_ne (fun z : b = Sa => nSfp (by rw [← z]; exact hb))).trans (f3 b hb).1.1)
        refine ⟨hn b hb, (I'.ok.exf b hb).1, I'.ok.exfs b hb, .inl hb, fun x c e => (I'.ok.exf b hb).2 x c e, fun p hp z => ?_⟩
        have hp : p ∈ [(h'.objs.size, go)] ++ [] := hp
        rw [List.append_nil, List.mem_singleton] at hp
        rw [hp] at z
        have := (f3 b hb).2
        have z : h'.objs.size = b := z
        rw [szh] at z
        rw [← z] at this
        exact absurd (Nat.lt_of_succ_lt this) (Nat.lt_irrefl _)
  cases hf : codeAmong gpos ps.toList with
  | none =>
    refine wpAny_genexprCodeX hcode (cd.code hPs ht) (cd.tab hPs) hf fun c' h' tk hx hge hlt hco' _ htab' _ => ?_
    obtain ⟨o1, vs, f1, tf, fl, tg, inF, tx, tt, op, _, _, _, _, _, _, _, _, _, htr, _⟩ := hco'
    exact cont _ h' tk _ hx (Nat.le_trans hge (Nat.le_of_lt hlt)) htab'.2 ⟨_, rfl⟩ htr
  | some cv =>
    refine wpAny_genexprCode_hit hcode (cd.code hPs ht) hf ?_
    exact cont cv s2.heap s2.toks ps (Heap.ExtBut.refl _ _) (Nat.le_refl _) hPs ⟨#[], by simp⟩ ht

/-! ### the rule -/
variable {c P : Addr} {elt tg iter : Expr} {ifs : List Expr} {p pos gpos : Pos} {scope : Scope} {own : List Str} {cp : List (Str × Nat)} {wi : TI} {g : TG} {tt : TT} {te : TE} {k : Nat}
/-- sum(elt for tg in iter if ..), the totals told ahead -/
def tSumG (P : Addr) (own : List Str) (cp : List (Str × Nat)) (wi : TI) (g : TG) (tt : TT) (te : TE) : TE := fun σ H Q => ∃ tot : Nat → Int, tot 0 = 0 ∧ tGenS P own cp wi g tt te (consS tot) (qeS tot Q) σ H
theorem boot_sum' : bootBuiltins "sum" = some (.builtin "sum") := by decide +kernel
theorem pe_sumG (hr : Room (k + 4) X.A) (hcalm : X.calm = true) (hg : Gl X "sum") (hm : X.mg "sum" = none) (TB : GxR.TabB X.base X.mg c P) (hcode : X.env.code = .ref c) (ok : GOk X.N X.env.scope scope own cp) (hi : PI X tg iter wi)
    (hpg : ∀ Ag s H C cl code fp pn, Room k Ag → PG (gX X Ag own cp s H (genEnv scope cl C code builtinsNs X.env) fp pn) tg g)
    (hpt : ∀ Ag s H C cl code fp pn, Room k Ag → PTs (gX X Ag own cp s H (genEnv scope cl C code builtinsNs X.env) fp pn) ifs tt)
    (hpe : ∀ Ag s H C cl code fp pn, Room k Ag → PE (gX X Ag own cp s H (genEnv scope cl C code builtinsNs X.env) fp pn) elt te)
    (hs : ∀ v, genFold iter X.env v = pure v := by intro _; rfl)
    (he : starEach [.GeneratorExp elt [⟨tg, iter, ifs, 0⟩] scope gpos] X.env = (false, eval (.GeneratorExp elt [⟨tg, iter, ifs, 0⟩] scope gpos) X.env) :: starEach [] X.env := by rfl) :
    PE X (.Call (.Name "sum" p) [.GeneratorExp elt [⟨tg, iter, ifs, 0⟩] scope gpos] [] pos) (tSumG P own cp wi g tt te) := by
  refine ⟨fun pins s σ H Q I h => ?_⟩
  obtain ⟨tot, t0, h⟩ := h
  refine wpAny_Call_Name_kw (ld_blt I hg hm boot_sum' ?_)
  refine PyProof.Rows.callWith_builtin1 ?_ he (by rfl)
  rw [he]
  show wpAny _ _ (spliced ((false, eval (.GeneratorExp elt [⟨tg, iter, ifs, 0⟩] scope gpos) X.env) :: backTo pos (starEach [] X.env))) _ _ s
  refine Calls.spliced_cons (gx_genS hr hcalm TB hcode ok hi hpg hpt hpe hs I h fun v s5 hG => ?_)
  obtain ⟨a, gi, Y, σ0, H5, rfl, h1, h2, I5, h3⟩ := hG
  refine Calls.spliced_nil ?_
  refine call_function_tree F.kind_sum F.plain_sum F.entry_sum (F.args_sum1 _) ?_
  unfold Builtin.«sum»
  simp only [List.length_cons, List.length_nil]
  rw [if_neg (by decide)]
  refine wpAny_bind (wpAny_of_eq (show Builtin.Builtins.bindParams "sum" ["start"] 0 { } = pure [none] from rfl) ?_)
  refine wpAny_bind (wpAny_pyIter_gen (h1 I5).1 ?_)
  refine wpAny_bind (wpAny_mkInt ?_)
  refine wpAny_bind (wpAny_pure ?_)
  simp only [List.forIn_cons, List.forIn_nil]
  refine wpAny_bind (wpAny_bind (wpAny_bind (wpAny_isInstance (T := "int") (b := false) (typeIs_int _ _ _) PySem.sub_int_str ?_)))
  simp only [Bool.false_eq_true, if_false]
  refine wpAny_pure (wpAny_bind (wpAny_bind (wpAny_isInstance (T := "int") (b := false) (typeIs_int _ _ _) PySem.sub_int_bytes ?_)))
  simp only [Bool.false_eq_true, if_false]
  refine wpAny_pure (wpAny_bind (wpAny_bind (wpAny_isInstance (T := "int") (b := false) (typeIs_int _ _ _) PySem.sub_int_bytearray ?_)))
  simp only [Bool.false_eq_true, if_false]
  refine wpAny_pure (wpAny_pure ?_)
  refine wpAny_bind (wpAny_newObj_type ?_)
  have I6 : Inv Y [] σ0 (upd H5 s5.heap.objs.size (.lst [.int 0])) { s5 with heap := s5.heap.push { cls := .type "list", data := .seq #[.int 0 s5.toks] }, toks := s5.toks + 1 } := I5.lnew (its := [.int 0 s5.toks]) (.cons ⟨_, rfl⟩ .nil) (show 1 ≤ sizeLine by decide)
  obtain ⟨N0, hr0⟩ := h3 { s5 with heap := s5.heap.push { cls := .type "list", data := .seq #[.int 0 s5.toks] }, toks := s5.toks + 1 } (fun b o e => Heap.get?_push_of_some _ e) rfl I6
  refine wpAny_pure ⟨plainId_quiet F.plain_sum_loop _, sum_gx (B := X.A) (tot := tot) (Q := Q) hr.hd hr.depth h1 (fun i t H' s' I' q => ⟨.int i, H', h2 I', ⟨t, rfl⟩, q⟩) N0 0 _ 0 (.inl rfl) rfl hr0 ?_⟩
  rw [t0]
  exact ⟨_, _, Heap.get?_push_size _ rfl⟩
end
end Gx
end
section
set_option Elab.async false
set_option linter.all false
set_option maxRecDepth 100000
set_option maxHeartbeats 4000000
/-! f(k = v, ..), no positional argument; start with an own table. -/
namespace Al
open PySem PySem.Spec PyProof.Rows L2
def gR0 {α : Type} (us ws : List α) : List α := if us.isEmpty then ws.reverse else []
theorem vals_rev : ∀ {vs : List V} {us : List Value}, Vals vs us → Vals vs.reverse us.reverse := fun {vs us} h => by
  have app : ∀ {a : List V} {b : List Value} {c : List V} {d : List Value}, Vals a b → Vals c d → Vals (a ++ c) (b ++ d) := fun {a b c d} h k => by
    induction h with
    | nil => exact k
    | cons r t ih => exact .cons r ih
  induction h with
  | nil => exact .nil
  | cons r t ih =>
    rw [List.reverse_cons, List.reverse_cons]
    exact app ih (.cons r .nil)
variable {K : PySem.W.Frag} {T : List Addr}
theorem kbinds {x : Str} {st : Stmt} {f c : Addr} {fd : FuncData} {ps ks : List Str} (F : FunT K x st f fd c) (hp : ps ≠ [])
    (h : ∀ (kV doc pm : Value) (an : Option Addr) (cdv ct : Value) (ws : List Value), ws.length = ps.length → bindArgs (PySem.W.fnOf x x (defArgs st) (defBody st) (defScope st) .none kV doc pm an cdv ct) ⟨[], ks.zip ws⟩ = pure (ps.zip ws.reverse)) : KBinds K fd ps ks gR0 gR0 := by
  obtain ⟨oc, od, kV, doc, pm, an, ct, osl, rfl, lk, hcd⟩ := F.ex
  refine ⟨fun s us ws _ hl => ?_, fun {vs us zs ws} r r2 => ?_⟩
  · cases us with
    | nil => exact .of_eq (h kV doc pm an (.ref c) ct ws (by rw [← hl]; exact (List.length_reverse).symm))
    | cons u us => exact absurd (List.length_eq_zero_iff.mp (hl.symm.trans rfl)) hp
  · cases r with
    | nil => exact vals_rev r2
    | cons _ _ => exact .nil
section
variable {X : Cx} {CX : CXT} {k : Nat} {f : Addr} {fd : FuncData} {ps ks : List Str} {sp : Sp} {E : XK} {x : Str} {p pos : Pos} {kws : List Keyword} {tk : TA} {g : List Value → List Value → List Value} {gV : List V → List V → List V}
theorem pe_callK0 (F : FnOk X.prog X.w X.K X.mg X.base CX k f fd ps sp) (hr : Room k X.A) (hg : Gl X x) (hm : X.mg x = some (.ref f)) (hk : PySem.W.keepIn X.K (.ref f) = true) (hb : KBinds X.K fd ps ks g gV) (hx : Passes CX X E) (hkw : PK X kws tk)
    (hall : (backToKw pos (keywordEach kws X.env)).all (·.1.isSome) = true := by rfl) (hks : (backToKw pos (keywordEach kws X.env)).filterMap (·.1) = ks := by rfl) (hdb : (x == ("__debug__" : Str)) = false := by decide)
    (hpl : ((backTo pos (starEach [] X.env)).any (·.1) || (backToKw pos (keywordEach kws X.env)).any (·.1.isNone)) = false := by rfl) : PE X (.Call (.Name x p) [] kws pos) (tCallK sp gV E tNil tk) := by
  constructor
  intro pins s σ H Q J h
  apply wpAny_Call_Name_kw
  apply ld_glob J hg hm _ hdb
  apply PySem.W.callWith_KW0 (h₀ := X.base) J.ok.mod.kin hk hall _ hpl
  refine thn (hkw.run pos pins s σ H _ J h) fun ws s2 ⟨zs, H2, J2, rz, q2⟩ => ⟨J2.kIn, ?_⟩
  rw [hks]
  exact run_fnk F hr hb hx J2 .nil rz q2
end
theorem call_isXK {X : Cx} (h : X.K = K) {C : Addr} {c2 : Value} {b : Bool} (Ec : ExcC K C) (kit : PySem.W.kitOne K (.ref C) c2 = some b) : CallR X (.builtin "isinstance") (rIsX K C c2 b) := by subst h; exact call_isX Ec kit
theorem rs_asg2 {te : TE} {g : TG} {ρ : Rho} {O : Own} {P : Po} (h : RunE K T te ρ O fun s O1 => ∃ d, s = .d d ∧ RunG K T g d ρ O1 fun ρ2 O2 => P.nx ρ2 O2) : RunS K T (tAsg te g) ρ O P := fun F H Ξ σ w e D d =>
  h F H Ξ σ w e _ fun v s F' O' H' e1 w1 r1 ⟨x, hs, hg⟩ => by
    subst hs
    exact hg F' H' Ξ σ v w1 (e.mono e1) r1 _ fun ρ' σ' F2 O2 H2 e2 w2 v2 p2 => d.nx ρ' O2 F2 H2 σ' (e1.trans e2) w2 v2 p2
/-- an own object among others is let go -/
theorem rs_less {ts : TS} {q : Addr × C} {ρ : Rho} {O O' : Own} {P : Po} (hp : O.Perm (q :: O')) (h : RunS K T ts ρ O' P) : RunS K T ts ρ O P := fun F H Ξ σ w e D d => by
  have w1 := w.perm (hp.append_right Ξ)
  exact h F H Ξ σ (Wd.drop (q := q) (O := O' ++ Ξ) w1) e D d
theorem args_rev {F : Hp} : ∀ {ss : List Sl} {vs : List V}, Args K F ss vs → Args K F ss.reverse vs.reverse := fun {ss vs} h => by
  have app : ∀ {a b : List Sl} {c d : List V}, Args K F a c → Args K F b d → Args K F (a ++ b) (c ++ d) := fun {a b c d} h k => by
    induction a generalizing c with
    | nil => rw [show c = [] from h]; exact k
    | cons s a ih =>
      obtain ⟨v, r, rfl, h2, h3⟩ := h
      exact ⟨v, r ++ d, rfl, h2, ih h3⟩
  induction ss generalizing vs with
  | nil => rw [show vs = [] from h]; exact rfl
  | cons s ss ih =>
    obtain ⟨v, r, rfl, h2, h3⟩ := h
    rw [List.reverse_cons, List.reverse_cons]
    exact app (ih h3) ⟨v, [], rfl, h2, rfl⟩
theorem re_callK0 {S : Prm} {E : XK} {tk : TA} {ρ : Rho} {O : Own} {P : PV} (h : RunA K T tk ρ O fun xs O1 => ∃ O2 O3, O1.Perm (O2 ++ O3) ∧ S xs.reverse O2 fun s O4 => P s (O4 ++ O3)) : RunE K T (tCallK (spOf K T S) gR0 E tNil tk) ρ O P := fun F H Ξ σ w e Q q =>
  h F H Ξ σ w e _ fun vs xs F1 O1 H1 e1 w1 rx ⟨O2, O3, hp, h1⟩ => by
    have w2 := w1.perm (hp.append_right Ξ)
    rw [List.append_assoc] at w2
    exact ⟨F1, O2, O3 ++ Ξ, xs.reverse, _, w2, args_rev rx, h1, fun v s F3 O3' H3 e3 w3 r3 p3 => q v s F3 (O3' ++ O3) H3 (e1.trans e3) (by rw [List.append_assoc]; exact w3) r3 p3⟩
/-- the law's start: one own table -/
theorem start_own {K : PySem.W.Frag} {T : List Addr} {H : Hp} {a pl : Addr} {q : Str} {ns : List Int} {S : Prm} (hT : ∀ P ∈ T, H P = some (.tbl #[])) (hl : H pl = some (.tbl #[])) (np : pl ∉ T) (hS : SqL K H a (ns.map V.int))
    (h : S [.d (.scr (ns.map .int))] [(pl, .tb q)] fun s _ => s = .d (.bl true)) : spOf K T S [.ref a] H (fun v _ => v = .bl true) fun _ _ _ => False := by
  have hT' : ∀ P ∈ pl :: T, H P = some (.tbl #[]) := fun P hP => (List.mem_cons.mp hP).elim (fun e => by rw [e]; exact hl) (hT P)
  refine ⟨fun b => if b ∈ pl :: T then none else H b, [(pl, .tb q)], [], [.d (.scr (ns.map .int))], _, ⟨fun b o e => ?_, fun p hp => ?_, fun p hp b hb => ?_, by simp [adr], fun P hP => ⟨⟨#[], hT P hP, True.intro⟩, if_pos (List.mem_cons_of_mem _ hP)⟩, fun p hp b hb => ?_⟩, ⟨.ref a, [], rfl, ⟨a, ns.map V.int, rfl, ?_, ints_rp ns⟩, rfl⟩, h, ?_⟩
  · by_cases hb : b ∈ pl :: T
    · rw [if_pos hb] at e; cases e
    · rw [if_neg hb] at e; exact e
  · rw [List.mem_singleton.mp hp]
    exact ⟨#[], hl, True.intro, fun pos cv z => by simp [codeAmong] at z⟩
  · rw [List.mem_singleton.mp hp] at hb
    rw [List.mem_singleton.mp hb]
    exact if_pos List.mem_cons_self
  · rw [List.mem_singleton.mp hp] at hb
    rw [List.mem_singleton.mp hb]
    exact np
  · have na : ∀ u, H a = some u → (∀ ps, u ≠ .tbl ps) → a ∉ pl :: T := fun u e n z => by rw [hT' a z] at e; exact n _ (Option.some.inj e).symm
    rcases hS with (hS | ⟨o, hS⟩) | hS
    · exact .inl (.inl ((if_neg (na _ hS (by intro ps z; cases z))).trans hS))
    · exact .inl (.inr ⟨o, (if_neg (na _ hS (by intro ps z; cases z))).trans hS⟩)
    · exact .inr hS
  · rintro v s F' O' H' _ _ r rfl
    exact r
end Al
end
section
set_option Elab.async false
set_option linter.all false
set_option maxRecDepth 100000
set_option maxHeartbeats 4000000
/-! sum of a generator, extend, in on trees, is None, reversed, t[-2::-1], a call of a local name: on data. -/
namespace Al
open PySem PySem.Spec PyProof.Rows L2 RT
variable {K : PySem.W.Frag} {T : List Addr}
theorem one_int {F : Hp} {i : Int} {vs : List V} (r : RpL K F [.int i] vs) : vs = [.int i] := by
  obtain ⟨v, u, rfl, h1, h2⟩ := r
  rw [show v = .int i from h1, show u = [] from h2]
theorem re_sumG {P : Addr} {own : List Str} {cp : List (Str × Nat)} {wi : TI} {g : TG} {tt : TT} {te : TE} {ρ : Rho} {O : Own} {Pv : PV} (tot : Nat → Int) (t0 : tot 0 = 0) (hP : P ∈ T) (gi : GIn g (List.range own.length))
    (h : RunI K T wi ρ O fun items O1 => ∃ W : Nat → Own → Prop, W 0 O1 ∧ (∀ O', W items.length O' → Pv (.d (.int (tot items.length))) O') ∧
      ∀ i d O', W i O' → items[i]? = some d → RunG K T g d (gR own cp ρ) O' fun ρ2 O2 => RunT K T tt ρ2 O2 fun b O3 => b = true ∧ RunE K T te ρ2 O3 fun s O4 => ∃ z : Int, s = .d (.int z) ∧ tot (i + 1) = tot i + z ∧ W (i + 1) O4) :
    RunE K T (Gx.tSumG P own cp wi g tt te) ρ O Pv := fun F H Ξ σ w e Q hq => by
  refine ⟨tot, t0, ?_⟩
  refine h F H Ξ σ w e _ fun J items F1 O1 H1 e1 w1 wk hW0 => ?_
  obtain ⟨W, h0, hd, hs⟩ := hW0
  refine ⟨(w1.tab P hP).1, fun H2 ht S hS => ?_⟩
  have w2 := w1.tabbed hP ht
  have w2S : Wd K T F1 (O1 ++ (S, C.ls [.int 0]) :: Ξ) (upd H2 S (.lst [.int 0])) := (w2.newO (c := .ls [.int 0]) hS rfl ⟨[.int 0], upd_same, .int 0, [], rfl, rfl, rfl⟩).perm List.perm_middle.symm
  refine ⟨fun i m j H' => j = i ∧ i + m = items.length ∧ ∃ O' F', Ex F1 F' ∧ Wd K T F' (O' ++ (S, C.ls [.int (tot i)]) :: Ξ) H' ∧ W i O', ⟨items.length, rfl, by omega, O1, F1, Ex.refl F1, by rw [t0]; exact w2S, h0⟩, ?_⟩
  rintro i m j H' ⟨hji, him, O', F', e2, w3, hW⟩
  subst hji
  obtain ⟨hstop, hgo⟩ := wk F' _ H' e2 w3
  cases hx : items[j]? with
  | none =>
    have : items.length ≤ j := List.getElem?_eq_none_iff.mp hx
    have : j = items.length := by omega
    subst this
    have w4 := w3.perm List.perm_middle
    obtain ⟨vs, hv, rv⟩ := w4.own _ List.mem_cons_self
    rw [one_int rv] at hv
    exact .inl ⟨hstop, hv, hq (.int _) (.d (.int _)) F' O' H' (e1.trans e2) (Wd.drop w4) rfl (hd O' hW)⟩
  | some x =>
    obtain ⟨g1, g2⟩ := hgo j x hx
    have hi : j < items.length := (List.getElem?_eq_some_iff.mp hx).1
    refine .inr ⟨g1, fun j' H3 => ∃ m', m' < m ∧ (j' = j + 1 ∧ j + 1 + m' = items.length ∧ ∃ O' F', Ex F1 F' ∧ Wd K T F' (O' ++ (S, C.ls [.int (tot (j + 1))]) :: Ξ) H3 ∧ W (j + 1) O'), fun j' H3 z => z, fun y H3 hy => ?_⟩
    obtain ⟨F2, e3, w4, r3⟩ := g2 y H3 hy
    have e13 : Ex F1 F2 := e2.trans e3
    refine gi _ _ _ _ _ (wipe_gS _ fun u hu => List.mem_range.mp hu) (hs j x O' hW hx F2 H3 ((S, C.ls [.int (tot j)]) :: Ξ) _ y w4 ((e.mono (e1.trans e13)).gS own cp) r3 _ fun ρ2 σ2 F4 O4 H4 e4 w5 v4 hb => ?_)
    refine hb F4 H4 _ σ2 w5 v4 _ fun b F5 O5 H5 e5 w6 hb5 => ?_
    obtain ⟨rfl, hE⟩ := hb5
    have e15 : Ex F1 F5 := e13.trans (e4.trans e5)
    rw [if_pos rfl]
    refine hE F5 H5 _ σ2 w6 (v4.mono e5) _ fun z s F6 O6 H6 e6 w7 r6 hk => ?_
    obtain ⟨k, rfl, ht', hW6⟩ := hk
    have w8 := w7.perm List.perm_middle
    obtain ⟨vs, hv, rv⟩ := w8.own _ List.mem_cons_self
    rw [one_int rv] at hv
    refine ⟨k, r6, hv, ht', m - 1, by omega, rfl, by omega, O6, F6, e15.trans e6, ?_, hW6⟩
    exact (w8.write (c' := .ls [.int (tot (j + 1))]) rfl rfl (fun ps z => by rw [hv] at z; cases z) ⟨[.int (tot (j + 1))], upd_same, .int _, [], rfl, rfl, rfl⟩).perm List.perm_middle.symm
/-- xs.extend(ys) -/
theorem re_extend {to te : TE} {ρ : Rho} {O : Own} {P : PV} (h : RunE K T to ρ O fun s O1 => ∃ p l0, s = .o p ∧ (p, C.ls l0) ∈ O1 ∧ RunE K T te ρ O1 fun sy O2 => ∃ zs l O3, sy = .d (.lst zs) ∧ O2.Perm ((p, .ls l) :: O3) ∧ l.length + zs.length ≤ sizeLine ∧ P (.d .non) ((p, .ls (l ++ zs)) :: O3)) :
    RunE K T (tBM K "list" rExtend to (tCons te tNil)) ρ O P := fun F H Ξ σ w e Q q =>
  h F H Ξ σ w e _ fun x s F1 O1 H1 e1 w1 r1 ⟨p, l0, hs, hm, h1⟩ => by
    subst hs
    have r1 : x = .ref p := r1
    subst r1
    refine ⟨tyV_own w1 hm, ?_⟩
    refine h1 F1 H1 Ξ σ w1 (e.mono e1) _ fun y sy F2 O2 H2 e2 w2 r2 ⟨zs, l, O3, hy, hp, hz, pp⟩ => ?_
    subst hy
    have w3 : Wd K T F2 ((p, .ls l) :: (O3 ++ Ξ)) H2 := w2.perm (hp.append_right Ξ)
    obtain ⟨us, hu, ru⟩ := w3.own _ List.mem_cons_self
    obtain ⟨b, vs, rfl, hb, rv⟩ := r2
    refine ⟨p, b, us, vs, rfl, rfl, hu, w3.ex _ _ hb, by rw [ru.length, rv.length]; exact hz, ?_⟩
    exact q .non (.d .non) F2 ((p, .ls (l ++ zs)) :: O3) _ (e1.trans e2) (w3.write (c' := .ls (l ++ zs)) rfl rfl (fun ps z => by rw [hu] at z; cases z) ⟨us ++ vs, upd_same, ru.append rv⟩) rfl pp
/-! ### in, on trees -/
def inP (x : D) (l : List D) : Bool := l.any fun y => eqD y x
theorem op_inDK {X : Cx} (h : X.K = K) (hu : X.A.units + 65 < cLine) : OpR X (compareOp .In) (rInD K) := by subst h; exact op_inD hu
theorem room_u65 {k : Nat} {A : Around} (r : Room k A) : A.units + 65 < cLine := by have := r.un; omega
theorem any_pd {n m : Nat} {x : D} (hx : plain n x = true) : ∀ l : List D, plainL m l = true → ((pdL l).any fun z => PyData.eqv z (pd x)) = inP x l
  | [], _ => by simp [pdL, inP]
  | y :: l, h => by
    simp only [plainL, Bool.and_eq_true] at h
    have ih := any_pd hx l h.2
    unfold inP at ih ⊢
    simp only [pdL, List.any_cons]
    rw [eqv_pd m n y x h.1 hx, ih]
theorem rr_inP {n m : Nat} {x : D} {l : List D} {O : Own} {P : PV} (hx : plain n x = true) (hl : plainL m l = true) (hn : n ≤ 64) (hm : m + 1 ≤ 64) (p : P (.d (.bl (inP x l))) O) : RunR K T (rInD K) (.d x) (.d (.lst l)) O P := fun F H Ξ vx vy w rx ry Q q => by
  have hl2 : plain (m + 1) (.lst l) = true := by rw [plain]; exact hl
  have e : pd (.lst l) = .list (pdL l) := by simp [pd]
  refine ⟨pd x, pdL l, dp_of w.ex n x vx hx rx, ?_, shaped_pd hx hn, ?_, q _ (.d (.bl (inP x l))) F O H (Ex.refl F) w (show V.bl _ = _ by rw [any_pd hx l hl]) p⟩
  · rw [← e]; exact dp_of w.ex (m + 1) _ vy hl2 ry
  · rw [← e]; exact shaped_pd hl2 hm
/-! ### is None -/
def isNonD : D → Bool
  | .non => true | _ => false
abbrev rIsNon : R2 := fun x y H Q => y = .non ∧ Q (.bl (decide (x = .non))) H
theorem non_rp {F : Hp} {x : D} {v : V} (h : ∀ u, x ≠ .raw u) (r : Rp K F x v) : decide (v = .non) = isNonD x := by
  cases x with
  | non => have r : v = .non := r; subst r; rfl
  | bl b => have r : v = .bl b := r; subst r; rfl
  | int b => have r : v = .int b := r; subst r; rfl
  | str b => have r : v = .str b := r; subst r; rfl
  | tup l => obtain ⟨a, vs, rfl, _⟩ := r; rfl
  | lst l => obtain ⟨a, vs, rfl, _⟩ := r; rfl
  | scr l => obtain ⟨a, vs, rfl, _⟩ := r; rfl
  | dic => obtain ⟨a, rfl, _⟩ := r; rfl
  | raw u => exact absurd rfl (h u)
theorem rr_isNon {x : D} {O : Own} {P : PV} (h : ∀ u, x ≠ .raw u) (p : P (.d (.bl (isNonD x))) O) : RunR K T rIsNon (.d x) (.d .non) O P := fun F H Ξ vx vy w rx ry Q q =>
  ⟨ry, q _ (.d (.bl (isNonD x))) F O H (Ex.refl F) w (show V.bl _ = _ by rw [non_rp h rx]) p⟩
/-! ### reversed(e) -/
theorem rev_get {α : Type} {l : List α} {i : Nat} (h : i < l.length) : l[l.length - 1 - i]? = l.reverse[i]? := by
  rw [List.getElem?_reverse h]
theorem walks_revL {F : Hp} {a : Addr} {l : List D} {vs : List V} (h : SqL K F a vs) (r : RpL K F l vs) : Walks K T F (Itv K a vs.length) l.reverse := fun F1 O H e w => by
  have h1 : SqL K H a vs := w.ex.seqL (e.seqL h)
  have hl : vs.length = l.length := r.length
  refine ⟨by show vs.length ≤ _; rw [List.length_reverse, hl]; exact Nat.le_refl _, fun i d hd => ?_⟩
  have hi : i < l.length := by have := (List.getElem?_eq_some_iff.mp hd).1; rwa [List.length_reverse] at this
  rw [← rev_get hi] at hd
  obtain ⟨v, hv, rv⟩ := r.get hd
  rw [← hl] at hv
  refine ⟨⟨by omega, vs, v, h1, hv⟩, fun x H' y => ?_⟩
  obtain ⟨rfl, y⟩ := y
  have := y vs h1
  rw [hv] at this
  cases this
  exact ⟨F1, Ex.refl F1, w, Rp.mono e _ _ rv⟩
theorem walks_revT {F : Hp} {a : Addr} {l : List D} {vs : List V} (h : SqT K F a vs) (r : RpL K F l vs) : Walks K T F (ItvT K a vs.length) l.reverse := fun F1 O H e w => by
  have h1 : SqT K H a vs := w.ex.seqT (e.seqT h)
  have hl : vs.length = l.length := r.length
  refine ⟨by show vs.length ≤ _; rw [List.length_reverse, hl]; exact Nat.le_refl _, fun i d hd => ?_⟩
  have hi : i < l.length := by have := (List.getElem?_eq_some_iff.mp hd).1; rwa [List.length_reverse] at this
  rw [← rev_get hi] at hd
  obtain ⟨v, hv, rv⟩ := r.get hd
  rw [← hl] at hv
  refine ⟨⟨by omega, vs, v, h1, hv⟩, fun x H' y => ?_⟩
  obtain ⟨rfl, y⟩ := y
  have := y vs h1
  rw [hv] at this
  cases this
  exact ⟨F1, Ex.refl F1, w, Rp.mono e _ _ rv⟩
theorem ri_rev {te : TE} {ρ : Rho} {O : Own} {P : List D → Own → Prop} (h : RunE K T te ρ O fun s O1 => ∃ d l, s = .d d ∧ itemsOf d = some l ∧ P l.reverse O1) : RunI K T (iRevA K te) ρ O P := fun F H Ξ σ w e R q =>
  h F H Ξ σ w e _ fun v s F1 O1 H1 e1 w1 r1 ⟨d, l, hs, hd, p⟩ => by
    subst hs
    obtain ⟨a, vs, rfl, rv, hq⟩ := seq_of hd r1
    refine ⟨a, vs, rfl, ?_⟩
    rcases hq with hq | hq
    · exact .inl ⟨w1.ex.seqL hq, q _ _ F1 O1 H1 e1 w1 (walks_revL hq rv) p⟩
    · exact .inr ⟨w1.ex.seqT hq, q _ _ F1 O1 H1 e1 w1 (walks_revT hq rv) p⟩
theorem pi_revAK {X : Cx} {tg e : Expr} {te : TE} {p pos : Pos} (h : X.K = K) (hg : Gl X "reversed") (hm : X.mg "reversed" = none) (he : PE X e te) (hs : starEach [e] X.env = (false, eval e X.env) :: starEach [] X.env := by rfl) : PI X tg (.Call (.Name "reversed" p) [e] [] pos) (iRevA K te) := by subst h; exact pi_revA hg hm he hs
/-! ### t[-2::-1] -/
section
variable {prog : Program} {w : World} {A : Around} {E : Value → Shared → Prop} {s : Shared}
theorem adjust_cut (n : Nat) : Builtin.Slice.sliceAdjust (some (-2)) none (-1) (n : Int) = (max ((n : Int) - 2) (-1), -1) := by
  unfold Builtin.Slice.sliceAdjust
  simp
  omega
theorem places_cut (n : Nat) : Builtin.Slice.slicePlaces (max ((n : Int) - 2) (-1)) (-1) (-1) = n - 1 := by
  unfold Builtin.Slice.slicePlaces
  simp
  omega
theorem applied_cut {sl : Addr} {n : Nat} {t t2 : Tok} {Q : Int × Int × Nat → Shared → Prop} {os : Obj} (hos : s.heap.get? sl = some os) (hds : os.data = .fields #[.int (-2) t2, .none, .int (-1) t]) (h : Q (max ((n : Int) - 2) (-1), -1, n - 1) s) :
    wpAny (model prog w) A (Builtin.Slice.sliceApplied (.ref sl) (pure (n : Int))) Q E s := by
  unfold Builtin.Slice.sliceApplied Builtin.Slice.sliceFields
  refine wpAny_bind (wpAny_bind (wpAny_field hos hds (x := .int (-2) t2) rfl (wpAny_bind (wpAny_field hos hds (x := .none) rfl (wpAny_bind (wpAny_field hos hds (x := .int (-1) t) rfl (wpAny_pure ?_)))))))
  refine wpAny_bind (slicePart_int ?_)
  show wpAny _ _ (if ((-1 : Int) == 0) = true then _ else _) _ _ s
  rw [if_neg (by decide)]
  refine wpAny_bind (slicePart_int (wpAny_bind (slicePart_none (wpAny_bind (wpAny_pure ?_)))))
  show wpAny _ _ (match Builtin.Slice.sliceAdjust (some (-2)) none (-1) (n : Int) with | (lo, hi) => pure (lo, (-1 : Int), Builtin.Slice.slicePlaces lo hi (-1))) _ _ s
  rw [adjust_cut n]
  show wpAny _ _ (pure (max ((n : Int) - 2) (-1), (-1 : Int), Builtin.Slice.slicePlaces (max ((n : Int) - 2) (-1)) (-1) (-1))) _ _ s
  rw [places_cut]
  exact wpAny_pure h
theorem pick_cut (xs : Array Value) : ((List.range (xs.size - 1)).filterMap fun (m : Nat) => xs[(max (((xs.size : Nat) : Int) - 2) (-1) + (m : Int) * (-1)).toNat]?).toArray = xs.toList.dropLast.reverse.toArray := by
  congr 1
  have e : (List.range (xs.size - 1)).filterMap (fun (m : Nat) => xs[(max (((xs.size : Nat) : Int) - 2) (-1) + (m : Int) * (-1)).toNat]?) = (List.range xs.toList.dropLast.length).filterMap fun m => xs.toList.dropLast.reverse[m]? := by
    rw [List.length_dropLast, Array.length_toList]
    refine fm_congr _ _ _ fun m hm => ?_
    have hm := List.mem_range.mp hm
    show xs[_]? = _
    rw [List.getElem?_reverse (by rw [List.length_dropLast, Array.length_toList]; exact hm), List.getElem?_dropLast, List.length_dropLast, Array.length_toList, if_pos (by omega), Array.getElem?_toList]
    congr 1
    omega
  rw [e]
  have all : ∀ l : List Value, (List.range l.length).filterMap (fun m => l[m]?) = l := fun l => by
    induction l with
    | nil => rfl
    | cons x l ih =>
      rw [List.length_cons, List.range_succ_eq_map, List.filterMap_cons]
      simp only [List.getElem?_cons_zero]
      rw [List.filterMap_map]
      show x :: List.filterMap (fun m => (x :: l)[m + 1]?) (List.range l.length) = x :: l
      simp only [List.getElem?_cons_succ, ih]
  have := all xs.toList.dropLast.reverse
  rwa [List.length_reverse] at this
theorem getItem_tuple_cut {t sl : Addr} {items : Array Value} {tk t2 : Tok} {Q : Value → Shared → Prop} {os : Obj} (ht : IsTup s.heap t items) (hos : s.heap.get? sl = some os) (hcs : os.cls = .type "slice") (hds : os.data = .fields #[.int (-2) t2, .none, .int (-1) tk])
    (h : Q (.ref s.heap.objs.size) { s with heap := s.heap.push { cls := .type "tuple", data := .seq items.toList.dropLast.reverse.toArray } }) (hsz : items.size ≤ sizeLine) : wpAny (model prog w) A (getItem (.ref t) (.ref sl)) Q E s := by
  have hTs : s.TypeIs (.ref sl) "slice" := ⟨os, hos, hcs⟩
  unfold getItem
  try with_reducible refine wpAny_holding ?_
  first | refine wpAny_bind (wpAny_pure ?_) | skip
  refine wpAny_bind (wpAny_sequenceKey ht.typeIs (by decide) ?_)
  refine wpAny_bind (wpAny_callSpecial?_slot (name := Str.ofString "__getitem__") ht.typeIs PyProof.Rows.slot_tuple_getitem
    (wpAny_call_entry PyProof.Rows.slot_tuple_getitem ht.typeIs entry_tuple_getitem ?_ (args_tuple_getitem _ _)))
  show wpAny _ _ (Builtin.Tuple.tupleItemsOf (.ref t) >>= _) _ _ s
  refine wpAny_bind (tupleItemsOf_ ht ?_)
  refine wpAny_bind (wpAny_typeOf hTs ?_)
  rw [if_pos (by decide)]
  refine wpAny_bind (applied_cut (n := items.size) hos hds ?_)
  have hno : ¬ ((max (((items.size : Nat) : Int) - 2) (-1) == 0 && (-1 : Int) == 1 && items.size - 1 == items.size) = true) := by
    intro q
    rw [Bool.and_eq_true, Bool.and_eq_true] at q
    exact absurd q.1.2 (by decide)
  show wpAny _ _ (if (max (((items.size : Nat) : Int) - 2) (-1) == 0 && (-1 : Int) == 1 && items.size - 1 == items.size) = true then _ else _) _ _ s
  rw [if_neg hno, pick_cut]
  have htake : sizeOk (.seq items.toList.dropLast.reverse.toArray) := by
    show items.toList.dropLast.reverse.toArray.size ≤ sizeLine
    rw [List.size_toArray, List.length_reverse, List.length_dropLast, Array.length_toList]
    omega
  first
    | exact wpAny_bind (m := Builtin.Tuple.tupleExact _) (wpAny_newObj_type (wpAny_pure ⟨_, rfl, wpAny_pure h⟩) htake)
    | exact wpAny_bind (m := Builtin.Tuple.tupleExact _) (wpAny_newObj_type (wpAny_bind (wpAny_pure (wpAny_pure ⟨_, rfl, wpAny_pure h⟩))) htake)
    | exact wpAny_bind (wpAny_bind (m := Builtin.Tuple.tupleExact _) (wpAny_newObj_type (wpAny_pure (wpAny_pure ⟨_, rfl, wpAny_pure h⟩)) htake))
    | exact wpAny_bind (wpAny_bind (m := Builtin.Tuple.tupleExact _) (wpAny_newObj_type (wpAny_pure ⟨_, rfl, wpAny_pure h⟩) htake))
end
section
variable {X : Cx}
def tCutT (K : PySem.W.Frag) (te : TE) : TE := fun σ H Q => te σ H fun x H1 => ∃ a xs, x = .ref a ∧ SqT K H1 a xs ∧ ∀ p, H1 p = none → Q (.ref p) (upd H1 p (.tup xs.dropLast.reverse))
theorem vals_init : ∀ {xs : List V} {us : List Value}, Vals xs us → Vals xs.dropLast us.dropLast
  | [], _, h => by cases h; exact .nil
  | [x], _, h => by
    cases h with
    | cons r t => cases t; exact .nil
  | x :: y :: xs, _, h => by
    cases h with
    | cons r t =>
      cases t with
      | cons r2 t2 => exact .cons r (vals_init (.cons r2 t2))
/-- t[-2::-1], t a tuple -/
theorem pe_cutT {e : Expr} {te : TE} {k k2 : Nat} {p1 p2 p3 p4 p5 pos : Pos} (h : X.K = K) (he : PE X e te) : PE X (.Subscript e (.Slice (some (.UnaryOp .USub (.Constant (.int 2) k2 p4) p5)) none (some (.UnaryOp .USub (.Constant (.int 1) k p1) p2)) p3) pos) (tCutT K te) := by
  subst h
  refine ⟨fun pins s σ H Q I h => ?_⟩
  refine Subscript_ (thn (he.run pins s σ H _ I h) fun v s1 ⟨x, H1, I1, r1, q1⟩ => ?_)
  obtain ⟨a, xs, ex, hx, q⟩ := q1
  subst ex
  cases r1
  have hst : PO X (some (.UnaryOp .USub (.Constant (.int 1) k p1) p2)) (tPart (tUn (rU fun i => .int (-i)) (tC (.int 1)))) := po_some (pe_un un_neg pe_int)
  have hst2 : PO X (some (.UnaryOp .USub (.Constant (.int 2) k2 p4) p5)) (tPart (tUn (rU fun i => .int (-i)) (tC (.int 2)))) := po_some (pe_un un_neg pe_int)
  refine wpAny_Slice (thn (hst2.run pins s1 σ H1 (fun o H2 => o = some (-2) ∧ H2 = H1) I1 ⟨2, rfl, -2, rfl, rfl, rfl⟩) fun vl s2 ⟨l, H2, I2, pl, el, e2⟩ => ?_)
  subst el e2
  refine thn (po_none.run pins s2 σ H2 (fun o H3 => o = none ∧ H3 = H2) I2 ⟨rfl, rfl⟩) fun vu s3 ⟨u, H3, I3, pu, eu, e3⟩ => ?_
  subst eu e3
  refine thn (hst.run pins s3 σ H3 (fun o H4 => o = some (-1) ∧ H4 = H3) I3 ⟨1, rfl, -1, rfl, rfl, rfl⟩) fun vs s4 ⟨o, H4, I4, ps, eo, e4⟩ => ?_
  subst eo e4
  have I5 : Inv X pins σ H4 { s4 with heap := s4.heap.push { cls := .type "slice", data := .fields #[vl, vu, vs] } } := I4.kept (t' := s4.toks) fun b ob q => Heap.get?_push_of_some _ q
  obtain ⟨its, r, ht, hz⟩ := I5.tuple hx
  obtain ⟨tl, evl⟩ : ∃ tk, vl = .int (-2) tk := by cases pl; exact ⟨_, rfl⟩
  have evu : vu = .none := by cases pu; rfl
  obtain ⟨tk, evs⟩ : ∃ tk, vs = .int (-1) tk := by cases ps; exact ⟨_, rfl⟩
  subst evl evu evs
  show wpAny (model X.prog X.w) X.A (subscriptTail e (.Slice (some (.UnaryOp .USub (.Constant (.int 2) k2 p4) p5)) none (some (.UnaryOp .USub (.Constant (.int 1) k p1) p2)) p3) (.ref a) (.ref s4.heap.objs.size)) (EP X pins σ Q) X.xe { s4 with heap := s4.heap.push { cls := .type "slice", data := .fields #[.int (-2) tl, .none, .int (-1) tk] } }
  refine tail_any (ops := [.ref a, .ref s4.heap.objs.size]) ht.typeIs (PyProof.Rows.slot_tuple_getitem.lookup) ?_ (by with_unfolding_all rfl)
  refine getItem_tuple_cut ht (Heap.get?_push_size _ rfl) rfl rfl ?_ (by rw [List.size_toArray, ← r.length]; exact hz)
  refine ⟨.ref _, _, I5.laid (t' := s4.toks) (o := .tup xs.dropLast.reverse) (fun b ob q => Heap.get?_push_of_some _ q) (Nat.le_refl _) ?_, rfl, q _ (I5.hok.fresh (Nat.le_refl _))⟩
  exact ⟨by rw [List.length_reverse, List.length_dropLast]; omega, _, (vals_init r).reverse, IsTup.new _ _⟩
end
theorem RpL.init {F : Hp} : ∀ {l : List D} {vs : List V}, RpL K F l vs → RpL K F l.dropLast vs.dropLast
  | [], vs, h => by rw [show vs = [] from h]; exact rfl
  | [d], vs, h => by
    obtain ⟨v, r, rfl, _, h3⟩ := h
    rw [show r = [] from h3]
    exact rfl
  | d :: d2 :: l, vs, h => by
    obtain ⟨v, r, rfl, h2, v2, r2, rfl, h3, h4⟩ := h
    exact ⟨v, _, rfl, h2, RpL.init (l := d2 :: l) ⟨v2, r2, rfl, h3, h4⟩⟩
theorem re_cutT {te : TE} {ρ : Rho} {O : Own} {P : PV} (h : RunE K T te ρ O fun s O1 => ∃ l, s = .d (.tup l) ∧ P (.d (.tup l.dropLast.reverse)) O1) : RunE K T (tCutT K te) ρ O P := fun F H Ξ σ w e Q q =>
  h F H Ξ σ w e _ fun x s F1 O1 H1 e1 w1 r1 ⟨l, hs, p⟩ => by
    subst hs
    obtain ⟨a, vs, rfl, hq, rv⟩ := r1
    refine ⟨a, vs, rfl, w1.ex.seqT hq, fun pp hp => ?_⟩
    have e2 : Ex F1 (upd F1 pp (.tup vs.dropLast.reverse)) := Ex.new (w1.ex.back hp)
    exact q _ _ _ O1 _ (e1.trans e2) (w1.new hp) (show SlV K _ (.d (.tup l.dropLast.reverse)) _ from ⟨pp, _, rfl, .inl (.inl upd_same), RpL.mono e2 _ _ rv.init.reverse⟩) p
/-! ### a call of a local name that holds one of some defs, all of one promise -/
def tCallH (i : Nat) (fs : List Addr) (sp : Sp) (E : L2.St → XK) (t : TA) : TE := fun σ H Q => ∃ f ∈ fs, σ[i]? = some (some (.ref f)) ∧ t σ H fun vs H1 => sp vs H1 Q (E σ)
structure HeldX (P : Program) (w : World) (K : PySem.W.Frag) (mg : Str → Option Value) (base : Heap) (CX : CXT) (k : Nat) (f : Addr) (sp : Sp) : Prop where
  ex : ∃ (fd : FuncData) (ps : List Str), FnOk P w K mg base CX k f fd ps sp ∧ PySem.W.keepIn K (.ref f) = true ∧ Binds K fd ps []
theorem pe_callH' {X : Cx} {CX : CXT} {k i : Nat} {fs : List Addr} {sp : Sp} {E : L2.St → XK} {x : Str} {p pos : Pos} {e : Expr} {es : List Expr} {t : TA} (hF : ∀ f ∈ fs, HeldX X.prog X.w X.K X.mg X.base CX k f sp) (hr : Room k X.A) (hN : X.N[i]? = some x) (hv : Vis X.env.scope x) (hx : ∀ σ, PassesAt CX X σ (E σ)) (ha : PA X (e :: es) t)
    (hdb : (x == ("__debug__" : Str)) = false := by decide) (hcd : (x == ("__classdict__" : Str)) = false := by decide)
    (he : starEach (e :: es) X.env = (false, eval e X.env) :: starEach es X.env := by rfl) (hpl : (backTo pos (starEach es X.env)).any (·.1) = false := by rfl) : PE X (.Call (.Name x p) (e :: es) [] pos) (tCallH i fs sp E t) := by
  refine ⟨fun pins s σ H Q I h => ?_⟩
  obtain ⟨f, hf, hs, ht⟩ := h
  obtain ⟨fd, ps, F, hk, hb⟩ := (hF f hf).ex
  refine wpAny_Call_Name_kw (thn ((pe_var (pos := p) hN hv hdb hcd).run pins s σ H (fun v H1 => v = .ref f ∧ H1 = H) I ⟨.ref f, hs, rfl, rfl⟩) fun u s1 ⟨v, H1, I1, r1, q1⟩ => ?_)
  obtain ⟨rfl, rfl⟩ := q1
  cases r1
  refine PySem.W.callWith_K (h₀ := X.base) I.ok.mod.kin hk (thn (ha.run pos pins s1 σ _ _ I1 ht) fun us s2 ⟨vs, H2, I2, r, q⟩ => ⟨I2.kIn, ?_⟩) he hpl
  exact run_fnS F hr hb (hx σ) I2 r q
theorem rx_callH {C : Addr} {i : Nat} {f : Addr} {fs : List Addr} {S : List Sl → Own → (Own → Prop) → Prop} {ta : TA} {ρ : Rho} {O : Own} {PX : Own → Prop} (hi : ρ[i]? = some (.d (.raw (.ref f)))) (hf : f ∈ fs) (h : RunA K T ta ρ O fun xs O1 => S xs O1 PX) : RunXE K T C (fun E => tCallH i fs (spRaise K T C S) (fun _ => E) ta) ρ O PX := fun F H Ξ σ wd e E Q q => by
  obtain ⟨v, h1, h2⟩ := e.get hi (fun z => nomatch z)
  have h2 : v = .ref f := h2
  subst h2
  exact ⟨f, hf, h1, h F H Ξ σ wd e _ fun vs xs F1 O1 H1 e1 w1 rx h1 => ⟨F1, O1, Ξ, xs, PX, w1, rx, h1, fun F2 O2 H2 e2 w2 p2 => q F2 O2 H2 (e1.trans e2) w2 p2⟩⟩
end Al
end
section
set_option Elab.async false
set_option linter.all false
set_option maxRecDepth 100000
set_option maxHeartbeats 4000000
/-! t * k, t a tuple, on data. -/
namespace Al
open PySem PySem.Spec PyProof.Rows L2
variable {K : PySem.W.Frag} {T : List Addr}
theorem op_repTK {X : Cx} (h : X.K = K) : OpR X (binaryOp .Mult) (rRepT K) := by subst h; exact op_repT
theorem RpL.rep {F : Hp} {l : List D} {vs : List V} (r : RpL K F l vs) : ∀ n : Nat, RpL K F (List.replicate n l).flatten (List.replicate n vs).flatten
  | 0 => rfl
  | n + 1 => by
    rw [List.replicate_succ, List.replicate_succ, List.flatten_cons, List.flatten_cons]
    exact r.append (RpL.rep r n)
theorem rr_repT {l : List D} {k : Int} {O : Own} {P : PV} (ne : l ≠ []) (h2 : 2 ≤ k) (h3 : k ≤ 1000) (hl : l.length ≤ 1000) (p : P (.d (.tup (List.replicate k.toNat l).flatten)) O) : RunR K T (rRepT K) (.d (.tup l)) (.d (.int k)) O P := fun F H Ξ vx vy w rx ry Q q => by
  obtain ⟨a, vs, rfl, hq, rv⟩ := rx
  refine ⟨a, k, vs, rfl, ry, w.ex.seqT hq, fun z => ?_, h2, h3, by rw [rv.length]; exact hl, fun pp hp => ?_⟩
  · have := rv.length
    rw [z] at this
    exact ne (List.eq_nil_of_length_eq_zero this.symm)
  · have e2 : Ex F (upd F pp (.tup (List.replicate k.toNat vs).flatten)) := Ex.new (w.ex.back hp)
    exact q _ _ _ O _ e2 (w.new hp) (show SlV K _ (.d (.tup (List.replicate k.toNat l).flatten)) _ from ⟨pp, _, rfl, .inl (.inl upd_same), RpL.mono e2 _ _ (rv.rep _)⟩) p
end Al
end
section
set_option Elab.async false
set_option linter.all false
set_option maxRecDepth 100000
set_option maxHeartbeats 2000000
/-! The tables of two code objects that the top has written out: unlike. -/
namespace Al
open PySem PySem.Spec PyProof.Rows L2
def tabOfK (K : PySem.W.Frag) (c : Addr) : Option Addr := match K.lookup c with
  | some o => (match o.data with | .fields vs => (match (vs[11]? : Option Value) with | some (.ref p) => some p | _ => none) | _ => none)
  | none => none
def tabsApart (K : PySem.W.Frag) (cs : List Addr) (c : Addr) : Bool := match tabOfK K c with
  | some p => cs.all fun c2 => (match tabOfK K c2 with | some p2 => p2 != p | none => false)
  | none => false
theorem tab_is {K : PySem.W.Frag} {h : Heap} {c P p : Addr} (X : K.In h) (C : PySem.W.CodeHd h c P) (e : tabOfK K c = some p) : p = P := by
  obtain ⟨o, vs, _, _, _, _, _, _, _, h1, _, h3, h4, _⟩ := C
  unfold tabOfK at e
  cases q : K.lookup c with
  | none => rw [q] at e; cases e
  | some o2 =>
    have := X _ _ q
    rw [h1] at this
    cases this
    rw [q] at e
    dsimp only at e
    rw [h3] at e
    dsimp only at e
    rw [h4] at e
    cases e
    rfl
theorem apart_of {K : PySem.W.Frag} {h : Heap} {cs : List Addr} {c P : Addr} (d : tabsApart K cs c = true) (X : K.In h) (C : PySem.W.CodeHd h c P) : ∀ c2 ∈ cs, ∀ P2, PySem.W.CodeHd h c2 P2 → P ≠ P2 := fun c2 hc P2 C2 e => by
  unfold tabsApart at d
  cases q : tabOfK K c with
  | none => rw [q] at d; cases d
  | some p =>
    rw [q] at d
    have h2 := List.all_eq_true.mp d c2 hc
    cases q2 : tabOfK K c2 with
    | none => rw [q2] at h2; cases h2
    | some p2 =>
      rw [q2] at h2
      have e1 := tab_is X C q
      have e2 := tab_is X C2 q2
      rw [e1, e2, e] at h2
      simp at h2
end Al
end
section
set_option Elab.async false
set_option linter.all false
set_option maxRecDepth 100000
set_option maxHeartbeats 4000000
/-! The law called by the claim itself: nothing is under way there, so that repr of a list is told; and the end for it. -/
namespace Al
open PySem PySem.Spec PyProof.Rows L2 LamX
/-! ### repr of a list of numbers and None -/
def txV : V → Str
  | .int i => toString i
  | _ => "None"
def smallV : V → Bool
  | .int i => decide (i.natAbs.log2 < 1920)
  | .non => true
  | _ => false
def rReprL : List V → Hp → VK → Prop := fun xs H Q => ∃ (a : Addr) (v : V) (vs : List V), xs = [.ref a] ∧ H a = some (.lst (v :: vs)) ∧ (v :: vs).all smallV = true ∧ (listText ((v :: vs).map txV)).length ≤ sizeLine ∧ Q (.str (listText ((v :: vs).map txV))) H
theorem repr_is {P : Program} {w : World} : ∀ {l : List V} {its : List Value}, Vals l its → l.all smallV = true → ∀ (i : Nat) (y : Value), its[i]? = some y → ∃ t, (l.map txV)[i]? = some t ∧ ReprIs P w y t
  | _, _, .nil, _, i, y, e => by simp at e
  | v :: l, _, .cons r t, h, 0, y, e => by
    rw [List.all_cons, Bool.and_eq_true] at h
    simp at e
    subst e
    refine ⟨txV v, rfl, ?_⟩
    cases v with
    | int i =>
      obtain ⟨tk, rfl⟩ := r
      exact ReprIs.int tk (of_decide_eq_true h.1)
    | non => cases r; exact ReprIs.none
    | _ => exact absurd h.1 (by simp [smallV])
  | v :: l, _, .cons r t, h, i + 1, y, e => by
    rw [List.all_cons, Bool.and_eq_true] at h
    exact repr_is t h.2 i y (by simpa using e)
theorem call_reprL {X : Cx} (hg : X.A.guards = some []) (hu : X.A.units + 1 < cLine) : CallR X (.builtin "repr") rReprL := by
  intro pins s σ H xs us Q I r h
  obtain ⟨a, v, vs, rfl, ha, hs, hz, q⟩ := h
  obtain ⟨u, rfl, ru⟩ := vals1 r
  have ru : u = .ref a := ru
  subst ru
  obtain ⟨its, n, rv, e, _⟩ := I.lst ha
  cases rv with
  | cons r1 r2 =>
    rename_i y ys
    have hT : s.TypeIs (.ref a) "list" := ⟨_, e, rfl⟩
    refine call_repr_slot hu hT PySem.F.slot_list_repr.toG ?_
    refine call_list_repr (g := []) hT (by show X.A.in1.guards = some []; exact hg) (fun _ _ _ z => nomatch z) e rfl (by simp [r2.length]) (fun i y e => repr_is (.cons r1 r2) hs i y (by simpa using e)) (fun h' t tk hk => ?_) hz
    exact ⟨_, _, rfl, .str _, H, I.kept (t' := tk) hk, ⟨_, rfl⟩, q⟩
theorem call_reprLK {X : Cx} {K : PySem.W.Frag} (h : X.K = K) (hg : X.A.guards = some []) (hu : X.A.units + 1 < cLine) : CallR X (.builtin "repr") rReprL := call_reprL hg hu
def txD : D → Str
  | .int i => toString i
  | _ => "None"
def smallD : D → Bool
  | .int i => decide (i.natAbs.log2 < 1920)
  | .non => true
  | _ => false
theorem small_rp {K : PySem.W.Frag} {F : Hp} : ∀ {l : List D} {vs : List V}, RpL K F l vs → l.all smallD = true → vs.all smallV = true ∧ vs.map txV = l.map txD
  | [], vs, r, _ => by rw [show vs = [] from r]; exact ⟨rfl, rfl⟩
  | d :: l, vs, r, h => by
    obtain ⟨v, us, rfl, r1, r2⟩ := r
    rw [List.all_cons, Bool.and_eq_true] at h
    obtain ⟨h1, h2⟩ := small_rp r2 h.2
    rw [List.all_cons, List.map_cons, List.map_cons, h1, h2, Bool.and_true]
    cases d with
    | int i => have r1 : v = .int i := r1; subst r1; exact ⟨h.1, rfl⟩
    | non => have r1 : v = .non := r1; subst r1; exact ⟨rfl, rfl⟩
    | _ => exact absurd h.1 (by simp [smallD])
theorem rc_reprL {K : PySem.W.Frag} {T : List Addr} {d : D} {l : List D} {O : Own} {P : PV} (h : (d :: l).all smallD = true) (hz : (listText ((d :: l).map txD)).length ≤ sizeLine) (p : P (.d (.str (listText ((d :: l).map txD)))) O) : RunC K T rReprL [.d (.lst (d :: l))] O P := fun F H Ξ vs w r Q q => by
  obtain ⟨v, rfl, rv⟩ := args1 r
  obtain ⟨a, us, rfl, ha, ru⟩ := rv
  obtain ⟨h1, h2⟩ := small_rp ru h
  obtain ⟨y, ys, rfl, _⟩ := ru
  refine ⟨a, y, ys, rfl, w.ex _ _ ha, h1, by rw [h2]; exact hz, ?_⟩
  rw [h2]
  exact q _ (.d (.str _)) F O H (Ex.refl F) w rfl p
/-! ### the law, called by the claim -/
/-- a promise kept where the claim calls: no frame, nothing under way -/
def FnG (P : Program) (w : World) (K : PySem.W.Frag) (mg : Str → Option Value) (base : Heap) (f : Addr) (fd : FuncData) (ps : List Str) (sp : Sp) : Prop :=
  ∀ (s : Shared) (H : Hp) (args : PySem.Args) (us : List Value) (vs : List V) (Q : VK) (E : XK), Env0 P w K mg base callerA [] s H → BindsTo s fd args (ps.zip us) → Vals vs us → sp vs H Q E → codeAny (model P w) callerA (.call (.ref f) args) (CR CX0 [] P w H s Q E) s
theorem FunT.okG {P : Program} {w : World} {K : PySem.W.Frag} {T : List Addr} {mg : Str → Option Value} {base : Heap} {x : Str} {st : Stmt} {f c : Addr} {fd : FuncData} {N ps : List Str} {k : Nat} {Sp : Prm} (hr0 : Room (k + 1) callerA) (F : FunT K x st f fd c) (S : FnScope N ps (defScope st)) (len : ∀ xs O Pv, Sp xs O Pv → xs.length = ps.length)
    (hbody : ∀ (s : Shared) (H : Hp) (E : XK), Room k (callerA.deeper (envOfC x (defScope st) s.heap.objs.size f (.ref c))) →
      ∃ t, PSs (cxOf CX0 P w K mg base N x (defScope st) f (.ref c) callerA [] s H E).nox (defBody st) t ∧ ∀ xs O Pv, Sp xs O Pv → RunS K T t (startR N.length xs) O { nx := fun _ O' => Pv (.d .non) O', rt := Pv }) :
    FnG P w K mg base f fd ps (spOf K T Sp) := by
  obtain ⟨oc, od, kV, doc, pm, an, ct, osl, rfl, lk, hcd⟩ := F.ex
  intro s H args us vs Q E e0 hb r hsp
  obtain ⟨F, O, Ξ, xs, Pv, wd, a, h, q⟩ := hsp
  refine run_ofS lk hcd S hr0 e0 hb r (by rw [a.length]; exact len xs O Pv h) fun hr => ?_
  obtain ⟨t, ht, hb⟩ := hbody s H E hr
  exact ⟨t, ht.nox, hb xs O Pv h F H Ξ _ wd (env_start a) _ ⟨fun ρ O' F' H' σ e w v p => q .non (.d .non) F' O' H' e w rfl p, fun s v O' F' H' e w r p => q v s F' O' H' e w r p, fun ρ O' F' H' σ e w v p => p.elim, fun ρ O' F' H' σ e w v p => p.elim⟩⟩
/-- what must be known of the law at the heap h that the head leaves -/
def LawAtG (l : PySem.W.OpenLaw) (w : World) (K : PySem.W.Frag) (n : Nat) (x : Str) (mg : Str → Option Value) (fa : Addr) (h : Heap) : Prop :=
  ∃ (fd : FuncData) (cs : List (Addr × Addr)) (sp : Sp), (∀ p ∈ cs, h.get? p.2 = some { cls := .none, data := .fields #[] }) ∧ (∀ p ∈ cs, K.lookup p.2 = none) ∧ (∀ p ∈ cs, PySem.W.CodeHd h p.1 p.2) ∧ (∀ (s : Shared) (u : Value), BindsTo s fd ⟨[u], []⟩ [(x, u)]) ∧
    (∀ (H : Hp) (a : Addr) (ns : List Int), ns.length ≤ n → (∀ z ∈ ns, Builtin.Int.intBits z ≤ 1048576) → (∀ p ∈ cs, H p.2 = some (.tbl #[])) → SqL K H a (ns.map V.int) → sp [.ref a] H (fun v _ => v = .bl true) fun _ _ _ => False) ∧
    ∀ base : Heap, K.In base → base.Ns mainGlobals mg → (∀ p ∈ cs, TabB base mg p.1 p.2) → FnG l.prog w K mg base fa fd [x] sp
section
variable {P : Program} {w : World} {K : PySem.W.Frag} {mg mb : Str → Option Value} {fa a : Addr} {cs : List (Addr × Addr)} {fd : FuncData} {x : Str} {sp : Sp} {s₁ : Shared} {vs : List Value} {ns : List Int}
/-- what is tracked at the entry: the script a, the tables of cs; all else lies in the base -/
structure Trk (K : PySem.W.Frag) (h : Heap) (cs : List (Addr × Addr)) (a : Addr) (H : Hp) : Prop where
  tab : ∀ p ∈ cs, H p.2 = some (.tbl #[])
  only : ∀ b, H b ≠ none → b = a ∨ b ∈ cs.map (·.2)
  frz : ∀ b, H b = none ∨ b ∈ cs.map (·.2) ∨ ∃ o xs, H b = some (.frz o (.lst xs))
  scr : H a ≠ none → K.lookup a = none
theorem trk_base (KX : K.In s₁.heap) (hT : ∀ p ∈ cs, s₁.heap.get? p.2 = some { cls := .none, data := .fields #[] }) (nT : ∀ p ∈ cs, K.lookup p.2 = none) (ha : s₁.heap.get? a = some { cls := .type "list", data := .seq vs.toArray }) {H : Hp} (tr : Trk K s₁.heap cs a H) :
    (∀ {b : Addr} {o : Obj}, s₁.heap.get? b = some o → (∀ vs n, o.data ≠ .seq vs n) → o.data ≠ .fields #[] → (hidT s₁.heap H).get? b = some o) ∧ K.In (hidT s₁.heap H) := by
  have far : ∀ {b : Addr} {o : Obj}, s₁.heap.get? b = some o → (b = a → False) → (b ∈ cs.map (·.2) → False) → (hidT s₁.heap H).get? b = some o := fun {b o} e n1 n2 => hidT_get e (by
    cases q : H b with
    | none => rfl
    | some u => exact (tr.only b (by rw [q]; exact fun z => nomatch z)).elim (fun z => (n1 z).elim) fun z => (n2 z).elim)
  constructor
  · intro b o e h1 h2
    refine far e (fun z => ?_) fun z => ?_
    · subst z; rw [ha] at e; cases e; exact h1 _ _ rfl
    · obtain ⟨p, hp, rfl⟩ := List.mem_map.mp z
      rw [hT p hp] at e; cases e; exact h2 rfl
  · intro b o e
    have e2 := KX b o e
    by_cases z : b ∈ cs.map (·.2)
    · obtain ⟨p, hp, rfl⟩ := List.mem_map.mp z
      have := nT p hp
      rw [show List.lookup p.2 K = some o from e] at this
      cases this
    · by_cases q : H b = none
      · exact hidT_get e2 q
      · refine far e2 (fun y => ?_) z
        subst y
        have := tr.scr q
        rw [show List.lookup b K = some o from e] at this
        cases this
theorem call_trk (KX : K.In s₁.heap) (hns : s₁.heap.Ns mainGlobals mg) (hb : s₁.heap.Ns builtinsNs mb) (hbb : ∀ x : Str, x ≠ "__name__" → mb x = bootBuiltins x) (hlim : s₁.heap.NoLimit) (hg : s₁.gens = #[])
    (hT : ∀ p ∈ cs, s₁.heap.get? p.2 = some { cls := .none, data := .fields #[] }) (nT : ∀ p ∈ cs, K.lookup p.2 = none) (C : ∀ p ∈ cs, PySem.W.CodeHd s₁.heap p.1 p.2)
    (hbm : ∃ (bm : Addr) (ob : Obj), mg "__builtins__" = some (.ref bm) ∧ bm ≠ builtinsNs ∧ s₁.heap.get? bm = some ob ∧ ob.cls = .type "module" ∧ ob.dict = some builtinsNs ∧ ob.data = .plain)
    (ha : s₁.heap.get? a = some { cls := .type "list", data := .seq vs.toArray })
    (F : ∀ base : Heap, K.In base → base.Ns mainGlobals mg → (∀ p ∈ cs, TabB base mg p.1 p.2) → FnG P w K mg base fa fd [x] sp) (hbind : ∀ (s : Shared) (u : Value), BindsTo s fd ⟨[u], []⟩ [(x, u)])
    {H : Hp} (tr : Trk K s₁.heap cs a H) (hok : HOk P w H s₁.heap) (hsp : sp [.ref a] H (fun v _ => v = .bl true) fun _ _ _ => False) :
    codeAny (model P w) callerA (.call (.ref fa) ⟨[.ref a], []⟩) (fun r s' => r = .ok (.ret (.bool true)) ∧ OldK s₁.heap s'.heap ∧ s'.os = s₁.os ∧ AllBare s'.gens) s₁ := by
  obtain ⟨stay, hKb⟩ := trk_base KX hT nT ha tr
  have nsK : ∀ {b : Addr} {m : Str → Option Value}, s₁.heap.Ns b m → (hidT s₁.heap H).Ns b m := fun {b m} ⟨o, es, ep, e, d, r⟩ => ⟨o, es, ep, stay e (fun _ _ z => by rw [d] at z; cases z) (fun z => by rw [d] at z; cases z), d, r⟩
  have TB : ∀ p ∈ cs, TabB (hidT s₁.heap H) mg p.1 p.2 := fun p hp => by
    obtain ⟨bm, ob, b1, b2, b3, b4, b5, b6⟩ := hbm
    obtain ⟨og, es, ep, eg, hd, _⟩ := id hns
    obtain ⟨o, us, file, tf, flags, tg, inF, text, tt, e1, r1, r2, r3, rest⟩ := C p hp
    refine ⟨⟨o, us, file, tf, flags, tg, inF, text, tt, stay e1 (fun _ _ z => by rw [r2] at z; cases z) (fun z => by rw [r2] at z; cases z; simp at r3), r1, r2, r3, rest⟩, ⟨bm, ob, b1, b2, fun z => ?_, fun z => ?_, stay b3 (fun _ _ z => by rw [b6] at z; cases z) (fun z => by rw [b6] at z; cases z), b4, b5, b6⟩, fun z => ?_⟩
    · rw [z, eg] at b3; cases b3; rw [hd] at b6; cases b6
    · rw [z, hT p hp] at b3; cases b3; cases b6
    · rw [z, hT p hp] at eg; cases eg; cases hd
  have e0 : Env0 P w K mg (hidT s₁.heap H) callerA [] s₁ H := ⟨rfl, ⟨hKb, nsK hns, ⟨mb, nsK hb, hbb⟩, hlim.elim fun mc h => ⟨mc, nsK h.1, h.2⟩⟩, fun b o e => of_hidT e, Nat.le_of_eq (hidT_size _ _), trivial, fun b hb => absurd (show b ∈ ([] : List Addr) from hb) (by simp), hok, .of_eq hg⟩
  refine codeAny_mono (F _ hKb (nsK hns) TB s₁ H ⟨[.ref a], []⟩ [.ref a] [.ref a] _ _ e0 (hbind s₁ (.ref a)) (.cons rfl .nil) hsp) fun r s' h => ?_
  match r, h with
  | .error e, h => exact (show False from h).elim
  | .ok .next, h => exact (show False from h).elim
  | .ok .brk, h => exact (show False from h).elim
  | .ok .cont, h => exact (show False from h).elim
  | .ok (.ret u), h =>
    obtain ⟨v, H', os, bare, un, hok', r', q⟩ := h
    have q' : v = .bl true := q
    subst q'
    have r' : u = .bool true := r'
    subst r'
    have more : ∀ p ∈ cs, ∃ ws : Array Value, s'.heap.get? p.2 = some { cls := .none, data := .fields ws } := fun p hp => by
      obtain ⟨ws, z⟩ := un.tbls p.2 #[] (tr.tab p hp)
      exact ⟨_, hok' p.2 _ z⟩
    have same : ∀ b o, b ∉ cs.map (·.2) → s₁.heap.get? b = some o → s'.heap.get? b = some o := fun b o nb e => by
      rcases tr.frz b with z | z | ⟨ob, xs, z⟩
      · exact un.keep b o e z (fun y => absurd (show b ∈ ([] : List Addr) from y) (by simp)) (by simp)
      · exact absurd z nb
      · have e1 := (hok b _ z).1
        rw [e] at e1
        cases e1
        exact (hok' b _ (un.frzs b _ _ z)).1
    refine ⟨rfl, ⟨fun b o e => ?_, fun b o e => ?_⟩, os, bare⟩
    · by_cases hb : b ∈ cs.map (·.2)
      · obtain ⟨p, hp, rfl⟩ := List.mem_map.mp hb
        obtain ⟨ws, hm⟩ := more p hp
        rw [hT p hp] at e
        cases e
        exact .inr (.inl ⟨((C p hp).tab (hT p hp)).isCodeTable, rfl, #[], ws, rfl, by rw [Array.empty_append]; exact hm⟩)
      · exact .inl (same b o hb e)
    · by_cases hb : b ∈ cs.map (·.2)
      · obtain ⟨p, hp, rfl⟩ := List.mem_map.mp hb
        exact (more p hp).elim fun ws hm => ⟨_, hm⟩
      · exact ⟨o, same b o hb e⟩
theorem law_callG (KX : K.In s₁.heap) (hns : s₁.heap.Ns mainGlobals mg) (hb : s₁.heap.Ns builtinsNs mb) (hbb : ∀ x : Str, x ≠ "__name__" → mb x = bootBuiltins x) (hlim : s₁.heap.NoLimit) (hg : s₁.gens = #[])
    (hT : ∀ p ∈ cs, s₁.heap.get? p.2 = some { cls := .none, data := .fields #[] }) (nT : ∀ p ∈ cs, K.lookup p.2 = none) (C : ∀ p ∈ cs, PySem.W.CodeHd s₁.heap p.1 p.2)
    (hbm : ∃ (bm : Addr) (ob : Obj), mg "__builtins__" = some (.ref bm) ∧ bm ≠ builtinsNs ∧ s₁.heap.get? bm = some ob ∧ ob.cls = .type "module" ∧ ob.dict = some builtinsNs ∧ ob.data = .plain)
    (ha : s₁.heap.get? a = some { cls := .type "list", data := .seq vs.toArray }) (hi : IntsAre vs ns) (hl : ns.length ≤ sizeLine)
    (F : ∀ base : Heap, K.In base → base.Ns mainGlobals mg → (∀ p ∈ cs, TabB base mg p.1 p.2) → FnG P w K mg base fa fd [x] sp) (hbind : ∀ (s : Shared) (u : Value), BindsTo s fd ⟨[u], []⟩ [(x, u)])
    (hsp : ∀ H : Hp, (∀ p ∈ cs, H p.2 = some (.tbl #[])) → SqL K H a (ns.map V.int) → sp [.ref a] H (fun v _ => v = .bl true) fun _ _ _ => False) :
    codeAny (model P w) callerA (.call (.ref fa) ⟨[.ref a], []⟩) (fun r s' => r = .ok (.ret (.bool true)) ∧ OldK s₁.heap s'.heap ∧ s'.os = s₁.os ∧ AllBare s'.gens) s₁ := by
  have rv := vals_ints hi
  have aT : a ∉ cs.map (·.2) := fun z => by
    obtain ⟨p, hp, e⟩ := List.mem_map.mp z
    have q := hT p hp
    rw [e, ha] at q
    have z' : Data.seq vs.toArray _ = Data.fields #[] := congrArg Obj.data (Option.some.inj q)
    cases z'
  have mT : ∀ p ∈ cs, p.2 ∈ cs.map (·.2) := fun p hp => List.mem_map.mpr ⟨p, hp, rfl⟩
  have okT : ∀ b : Addr, b ∈ cs.map (·.2) → s₁.heap.get? b = some { cls := .none, data := .fields #[] } := fun b hb => by
    obtain ⟨p, hp, e⟩ := List.mem_map.mp hb
    rw [← e]
    exact hT p hp
  let H0 : Hp := fun b => if b ∈ cs.map (·.2) then some (.tbl #[]) else none
  have y0 : ∀ {b}, b ∈ cs.map (·.2) → H0 b = some (.tbl #[]) := fun hb => if_pos hb
  have n0 : ∀ {b}, b ∉ cs.map (·.2) → H0 b = none := fun hb => if_neg hb
  have ok0 : HOk P w H0 s₁.heap := fun b u z => by
    by_cases hb : b ∈ cs.map (·.2)
    · rw [y0 hb] at z; cases z; exact okT b hb
    · rw [n0 hb] at z; cases z
  have finish := fun (H : Hp) (tr : Trk K s₁.heap cs a H) (hok : HOk P w H s₁.heap) (hS : SqL K H a (ns.map V.int)) => call_trk KX hns hb hbb hlim hg hT nT C hbm ha F hbind tr hok (hsp H tr.tab hS)
  cases hk : K.lookup a with
  | some o =>
    have e := KX a o hk
    rw [ha] at e
    cases e
    refine finish H0 ⟨fun p hp => y0 (mT p hp), fun b z => ?_, fun b => ?_, fun z => absurd (n0 aT) z⟩ ok0 (.inr ⟨_, vs.toArray, _, hk, rfl, rfl, rfl, by rw [List.size_toArray, hi.length]; exact hl, by simpa using rv⟩)
    · by_cases hb : b ∈ cs.map (·.2)
      · exact .inr hb
      · exact absurd (n0 hb) z
    · by_cases hb : b ∈ cs.map (·.2)
      · exact .inr (.inl hb)
      · exact .inl (n0 hb)
  | none =>
    have neq : ∀ {b}, b ∈ cs.map (·.2) → b ≠ a := fun hb z => aT (by rw [← z]; exact hb)
    refine finish (upd H0 a (.frz { cls := .type "list", data := .seq vs.toArray } (.lst (ns.map V.int)))) ⟨fun p hp => by rw [upd_ne (neq (mT p hp))]; exact y0 (mT p hp), fun b z => ?_, fun b => ?_, fun _ => hk⟩ (fun b u z => ?_) (.inl (.inr ⟨_, upd_same⟩))
    · by_cases e : b = a
      · exact .inl e
      · rw [upd_ne e] at z
        by_cases hb : b ∈ cs.map (·.2)
        · exact .inr hb
        · exact absurd (n0 hb) z
    · by_cases e : b = a
      · subst e; exact .inr (.inr ⟨_, _, upd_same⟩)
      · rw [upd_ne e]
        by_cases hb : b ∈ cs.map (·.2)
        · exact .inr (.inl hb)
        · exact .inl (n0 hb)
    · by_cases e : b = a
      · subst e
        rw [upd_same] at z
        cases z
        exact ⟨ha, by rw [List.length_map]; exact hl, vs, _, rv, ha⟩
      · rw [upd_ne e] at z
        by_cases hb : b ∈ cs.map (·.2)
        · rw [y0 hb] at z; cases z; exact okT b hb
        · rw [n0 hb] at z; cases z
end
theorem walk_ofDefsG {l : PySem.W.OpenLaw} {n : Nat} {q : Program} {loose : List Str} {XP : (Str → Option Value) → Heap → Prop} {YP : World → Heap → Prop} {d : DefRec} {K : Params → PySem.W.Frag} {x : Str}
    (hn : l.most = some n) (hn2 : n ≤ sizeLine) (hdf : d.params.defaults = []) (hY : ∀ (w : World) (h : Heap), YP w h → (K w.params).In h)
    (F : ∀ (w : World) (mg : Str → Option Value) (fa : Addr) (h : Heap), YP w h → (K w.params).In h → h.Ns mainGlobals mg → mg d.name = some (.ref fa) → (∀ (name : Str) (f : Addr), ((recsOf q).any fun e => e.name == name) = true → mg name = some (.ref f) → TabOf (K w.params) f h) → LawAtG l w (K w.params) n x mg fa h) :
    PySem.W.WalkO q loose XP YP l.row.toRowW d [] (fun f vs => PySem.call f vs) := by
  refine Att.attach_callB hn hdf fun w s₀ s₁ mg mb fa o pm cd doc a vs ns G Y ho hd hcd hmg hobj hints hlen hbits hg => ?_
  have KX := hY w _ Y
  have own : ∀ (name : Str) (f : Addr), ((recsOf q).any fun e => e.name == name) = true → mg name = some (.ref f) → TabOf (K w.params) f s₁.heap := fun name f hrec hmf c o1 fd1 k1 k2 k3 => by
    obtain ⟨dL, hm, hn1⟩ := List.any_eq_true.mp hrec
    have hn2 : dL.name = name := beq_iff_eq.mp hn1
    obtain ⟨a', o', fd', c', P', h1, h2, h3, h4, h5, h6⟩ := G.T.tab dL hm
    rw [hn2, hmf] at h1
    cases h1
    have g1 := KX _ _ k1
    rw [g1] at h2
    cases h2
    rw [k2] at h3
    cases h3
    rw [k3] at h4
    cases h4
    exact ⟨P', h6.2, PySem.W.CodeHd.of h5 h6⟩
  obtain ⟨fd, cs, sp, hT, nT, C, hb, hsp, hF⟩ := F w mg fa _ Y KX G.T.g hmg own
  exact law_callG KX G.T.g G.T.b G.T.builtins G.T.nolimit hg hT nT C G.T.bmain hobj hints (Nat.le_trans hlen hn2) hF hb fun H hH hS => hsp H a ns hlen hbits hH hS
end Al
end
section
set_option Elab.async false
set_option linter.all false
set_option maxRecDepth 100000
set_option maxHeartbeats 4000000
/-! What the functions of weaves tell, as functions of data. -/
namespace K0
open PySem PySem.Spec PyProof.Rows L2 Al
def pts (d : D) : List D := (partsD d).getD []
def letD : D → Option D
  | .tup (.str u :: x :: _) => if (u == "letter") = true then some x else none
  | _ => none
def hdIs (h : Str) : D → Bool
  | .tup (.str u :: _) => u == h
  | _ => false
def endl (d : D) : Bool := hdIs "on" d || (hdIs "back" d || hdIs "mix" d)
/-- its letters, in order, as often as they stand in it -/
def letW : Nat → D → List D
  | 0, _ => []
  | n + 1, d => match letD d with | some x => [x] | none => ((pts d).map (letW n)).flatten
/-- it and all weaves in it -/
def subW : Nat → D → List D
  | 0, _ => []
  | n + 1, d => d :: ((pts d).map (subW n)).flatten
/-- how many places, none if endless many -/
def plW : Nat → D → Option Nat
  | 0, _ => none
  | n + 1, d => match letD d with
    | some _ => some 1
    | none => if hdIs "then" d = true then (if ((pts d).map (plW n)).any (·.isNone) = true then none else some (((pts d).map (plW n)).map (·.getD 0)).sum)
      else if ((pts d).map (plW n)).all (· == some 0) = true then some 0 else none
def isE : Option (List D) → Bool
  | some [] => true | _ => false
/-- its letters, place by place, none if endless many -/
def tdW : Nat → D → Option (List D)
  | 0, _ => none
  | n + 1, d => match letD d with
    | some x => some [x]
    | none => if endl d = true then (if ((pts d).map (tdW n)).all isE = true then some [] else none)
      else if ((pts d).map (tdW n)).any (·.isNone) = true then none else some (((pts d).map (tdW n)).map (·.getD [])).flatten
def oD : Option Nat → D
  | none => .non | some k => .int (k : Nat)
def tD : Option (List D) → D
  | none => .non | some l => .tup l
theorem wv_cases {sc : List Str} {n : Nat} {d : D} (h : wvD sc (n + 1) d = true) :
    d = .tup [.str "none"] ∨ (∃ l, d = .tup [.str "letter", .tup l] ∧ letterD sc (.tup l) = true) ∨ (∃ m, d = .tup [.str "mix", .tup m] ∧ m ≠ [] ∧ (∀ x ∈ m, wvD sc n x = true)) ∨
    (∃ e f, d = .tup [.str "then", e, f] ∧ wvD sc n e = true ∧ wvD sc n f = true) ∨ (∃ e, d = .tup [.str "on", e] ∧ wvD sc n e = true) ∨ (∃ e, d = .tup [.str "back", e] ∧ wvD sc n e = true) := by
  rw [wvD, Bool.and_eq_true, Bool.and_eq_true, List.all_eq_true] at h
  obtain ⟨h1, h2, _⟩ := h
  obtain ⟨u, r, rfl, q⟩ := knot_inv h1
  rcases q with ⟨rfl, rfl⟩ | ⟨rfl, l, rfl, q1⟩ | ⟨rfl, m, rfl, ne⟩ | ⟨rfl, e, f, rfl⟩ | ⟨rfl, e, rfl⟩ | ⟨rfl, e, rfl⟩
  · exact .inl rfl
  · exact .inr (.inl ⟨l, rfl, q1⟩)
  · exact .inr (.inr (.inl ⟨m, rfl, ne, h2⟩))
  · exact .inr (.inr (.inr (.inl ⟨e, f, rfl, h2 e (.head _), h2 f (.tail _ (.head _))⟩)))
  · exact .inr (.inr (.inr (.inr (.inl ⟨e, rfl, h2 e (.head _)⟩))))
  · exact .inr (.inr (.inr (.inr (.inr ⟨e, rfl, h2 e (.head _)⟩))))
theorem pts_none : pts (.tup [.str "none"]) = [] := rfl
theorem pts_letter (x : D) : pts (.tup [.str "letter", x]) = [] := rfl
theorem pts_mix (m : List D) : pts (.tup [.str "mix", .tup m]) = m := rfl
theorem pts_then (e f : D) : pts (.tup [.str "then", e, f]) = [e, f] := rfl
theorem pts_on (e : D) : pts (.tup [.str "on", e]) = [e] := rfl
theorem pts_back (e : D) : pts (.tup [.str "back", e]) = [e] := rfl
theorem let_none : letD (.tup [.str "none"]) = none := rfl
theorem let_letter (x : D) : letD (.tup [.str "letter", x]) = some x := rfl
theorem let_mix (m : List D) : letD (.tup [.str "mix", .tup m]) = none := rfl
theorem let_then (e f : D) : letD (.tup [.str "then", e, f]) = none := rfl
theorem let_on (e : D) : letD (.tup [.str "on", e]) = none := rfl
theorem let_back (e : D) : letD (.tup [.str "back", e]) = none := rfl
theorem len_some {o : Option (List D)} : (o.map List.length == some 0) = isE o := by
  cases o with
  | none => rfl
  | some l => cases l <;> rfl
theorem all_len (l : List D) (f : D → Option (List D)) : (l.map fun x => (f x).map List.length).all (· == some 0) = (l.map f).all isE := by
  induction l with
  | nil => rfl
  | cons x l ih => rw [List.map_cons, List.map_cons, List.all_cons, List.all_cons, ih, len_some]
theorem all_one (o : Option (List D)) : [o.map List.length].all (· == some 0) = [o].all isE := by
  rw [List.all_cons, List.all_cons, len_some]; rfl
theorem pl_td {sc : List Str} : ∀ (n : Nat) (d : D), wvD sc n d = true → plW n d = (tdW n d).map List.length
  | 0, _, h => by cases h
  | n + 1, d, h => by
    rcases wv_cases h with rfl | ⟨l, rfl, _⟩ | ⟨m, rfl, _, hm⟩ | ⟨e, f, rfl, he, hf⟩ | ⟨e, rfl, he⟩ | ⟨e, rfl, he⟩
    · rfl
    · rfl
    · have e1 : m.map (plW n) = m.map fun x => (tdW n x).map List.length := List.map_congr_left fun x hx => pl_td n x (hm x hx)
      show (if (m.map (plW n)).all (· == some 0) = true then some 0 else none) = (if (m.map (tdW n)).all isE = true then some [] else none : Option (List D)).map List.length
      rw [e1, all_len]
      split <;> rfl
    · show (if [plW n e, plW n f].any (·.isNone) = true then none else some ([plW n e, plW n f].map (·.getD 0)).sum) = (if [tdW n e, tdW n f].any (·.isNone) = true then none else some ([tdW n e, tdW n f].map (·.getD [])).flatten : Option (List D)).map List.length
      rw [pl_td n e he, pl_td n f hf]
      cases tdW n e <;> cases tdW n f <;> simp
    · show (if [plW n e].all (· == some 0) = true then some 0 else none) = (if [tdW n e].all isE = true then some [] else none : Option (List D)).map List.length
      rw [pl_td n e he, all_one]
      split <;> rfl
    · show (if [plW n e].all (· == some 0) = true then some 0 else none) = (if [tdW n e].all isE = true then some [] else none : Option (List D)).map List.length
      rw [pl_td n e he, all_one]
      split <;> rfl
theorem flat_nil {l : List (List D)} (h : ∀ x ∈ l, x = []) : l.flatten = [] := by
  induction l with
  | nil => rfl
  | cons x l ih => rw [List.flatten_cons, h x (.head _), ih fun y hy => h y (.tail _ hy)]; rfl
theorem td_let {sc : List Str} : ∀ (n : Nat) (d : D), wvD sc n d = true → ∀ l, tdW n d = some l → letW n d = l
  | 0, _, h => by cases h
  | n + 1, d, h => by
    have emp : ∀ x, wvD sc n x = true → isE (tdW n x) = true → letW n x = [] := fun x hx q => by
      cases r : tdW n x with
      | none => rw [r] at q; cases q
      | some l =>
        rw [r] at q
        cases l with
        | nil => exact td_let n x hx [] r
        | cons => cases q
    intro l
    rcases wv_cases h with rfl | ⟨l, rfl, _⟩ | ⟨m, rfl, _, hm⟩ | ⟨e, f, rfl, he, hf⟩ | ⟨e, rfl, he⟩ | ⟨e, rfl, he⟩
    · intro e
      cases e
      rfl
    · intro e
      cases e
      rfl
    · show (if (m.map (tdW n)).all isE = true then some [] else none : Option (List D)) = some l → ((m.map (letW n)).flatten) = l
      split
      · rename_i q
        intro e
        cases e
        refine flat_nil fun y hy => ?_
        obtain ⟨x, hx, rfl⟩ := List.mem_map.mp hy
        exact emp x (hm x hx) (List.all_eq_true.mp q _ (List.mem_map.mpr ⟨x, hx, rfl⟩))
      · intro e; cases e
    · show (if [tdW n e, tdW n f].any (·.isNone) = true then none else some ([tdW n e, tdW n f].map (·.getD [])).flatten : Option (List D)) = some l → [letW n e, letW n f].flatten = l
      cases q1 : tdW n e with
      | none => intro z; cases z
      | some a =>
        cases q2 : tdW n f with
        | none => intro z; simp at z
        | some b =>
          rw [td_let n e he a q1, td_let n f hf b q2]
          intro z
          simpa using z
    · show (if [tdW n e].all isE = true then some [] else none : Option (List D)) = some l → [letW n e].flatten = l
      split
      · rename_i q
        intro z
        cases z
        rw [emp e he (List.all_eq_true.mp q _ (.head _))]
        rfl
      · intro z; cases z
    · show (if [tdW n e].all isE = true then some [] else none : Option (List D)) = some l → [letW n e].flatten = l
      split
      · rename_i q
        intro z
        cases z
        rw [emp e he (List.all_eq_true.mp q _ (.head _))]
        rfl
      · intro z; cases z
theorem sub_succ (n : Nat) (d : D) : subW (n + 1) d = d :: ((pts d).map (subW n)).flatten := rfl
theorem mem_flat {α : Type} {x : α} {l : List D} {f : D → List α} : x ∈ (l.map f).flatten ↔ ∃ y ∈ l, x ∈ f y := by
  rw [List.mem_flatten]
  exact ⟨fun ⟨a, h1, h2⟩ => let ⟨y, h3, h4⟩ := List.mem_map.mp h1; ⟨y, h3, by rw [h4]; exact h2⟩, fun ⟨y, h1, h2⟩ => ⟨_, List.mem_map.mpr ⟨y, h1, rfl⟩, h2⟩⟩
theorem let_sub {sc : List Str} : ∀ (n : Nat) (d : D), wvD sc n d = true → ∀ x, x ∈ letW n d ↔ D.tup [.str "letter", x] ∈ subW n d
  | 0, _, h => by cases h
  | n + 1, d, h => by
    intro x
    have go : ∀ m : List D, (∀ y ∈ m, wvD sc n y = true) → letW (n + 1) d = (m.map (letW n)).flatten → pts d = m → d ≠ .tup [.str "letter", x] → (x ∈ letW (n + 1) d ↔ D.tup [.str "letter", x] ∈ subW (n + 1) d) := fun m hm e1 e2 ne => by
      rw [e1, sub_succ, e2, List.mem_cons, mem_flat, mem_flat]
      constructor
      · rintro ⟨y, hy, h⟩
        exact .inr ⟨y, hy, (let_sub n y (hm y hy) x).mp h⟩
      · rintro (h | ⟨y, hy, h⟩)
        · exact absurd h.symm ne
        · exact ⟨y, hy, (let_sub n y (hm y hy) x).mpr h⟩
    have nu : ∀ {u : Str} {r : List D}, u ≠ "letter" → D.tup (.str u :: r) ≠ .tup [.str "letter", x] := fun h e => by
      injection e with e
      injection e with e _
      injection e with e
      exact h e
    rcases wv_cases h with rfl | ⟨l, rfl, _⟩ | ⟨m, rfl, _, hm⟩ | ⟨e, f, rfl, he, hf⟩ | ⟨e, rfl, he⟩ | ⟨e, rfl, he⟩
    · exact go [] (fun _ z => nomatch z) rfl rfl (nu (by decide))
    · show x ∈ [D.tup l] ↔ _ ∈ [D.tup [.str "letter", .tup l]]
      rw [List.mem_singleton, List.mem_singleton]
      constructor
      · rintro rfl; rfl
      · intro e
        injection e with e
        injection e with _ e
        injection e with e
    · exact go m hm rfl rfl (nu (by decide))
    · exact go [e, f] (fun y hy => by
        rcases List.mem_cons.mp hy with rfl | hy
        · exact he
        · rw [List.mem_singleton.mp hy]; exact hf) rfl rfl (nu (by decide))
    · exact go [e] (fun y hy => by rw [List.mem_singleton.mp hy]; exact he) rfl rfl (nu (by decide))
    · exact go [e] (fun y hy => by rw [List.mem_singleton.mp hy]; exact he) rfl rfl (nu (by decide))
theorem pts_wv {sc : List Str} {n : Nat} {d : D} (h : wvD sc (n + 1) d = true) : ∀ x ∈ pts d, wvD sc n x = true := by
  rw [wvD, Bool.and_eq_true, Bool.and_eq_true, List.all_eq_true] at h
  exact h.2.1
theorem cnt_succ (n : Nat) (d : D) : cnt (n + 1) d = 1 + ((pts d).map (cnt n)).sum := rfl
theorem flat_len {α : Type} (f : D → List α) (g : D → Nat) : ∀ l : List D, (∀ x ∈ l, (f x).length = g x) → ((l.map f).flatten).length = (l.map g).sum
  | [], _ => rfl
  | x :: l, h => by rw [List.map_cons, List.map_cons, List.flatten_cons, List.length_append, List.sum_cons, flat_len f g l fun y hy => h y (.tail _ hy), h x (.head _)]
theorem sub_len {sc : List Str} : ∀ (n : Nat) (d : D), wvD sc n d = true → (subW n d).length = cnt n d
  | 0, _, h => by cases h
  | n + 1, d, h => by
    rw [sub_succ, cnt_succ, List.length_cons, flat_len (subW n) (cnt n) _ fun x hx => sub_len n x (pts_wv h x hx)]
    omega
theorem sub_wv {sc : List Str} : ∀ (n : Nat) (d : D), wvD sc n d = true → ∀ y ∈ subW n d, ∃ k, k ≤ n ∧ wvD sc k y = true ∧ cnt k y ≤ cnt n d
  | 0, _, h => by cases h
  | n + 1, d, h => by
    intro y hy
    rw [sub_succ] at hy
    rcases List.mem_cons.mp hy with rfl | hy
    · exact ⟨n + 1, Nat.le_refl _, h, Nat.le_refl _⟩
    · obtain ⟨x, hx, hy⟩ := mem_flat.mp hy
      obtain ⟨k, h1, h2, h3⟩ := sub_wv n x (pts_wv h x hx) y hy
      refine ⟨k, by omega, h2, ?_⟩
      have := mem_sum (f := cnt n) hx
      rw [cnt_succ]
      omega
theorem let_letters {sc : List Str} : ∀ (n : Nat) (d : D), wvD sc n d = true → (∀ x ∈ letW n d, letterD sc x = true) ∧ (letW n d).length ≤ cnt n d
  | 0, _, h => by cases h
  | n + 1, d, h => by
    cases q : letD d with
    | some x =>
      have e : letW (n + 1) d = [x] := by rw [letW, q]
      rw [e]
      refine ⟨fun y hy => ?_, by rw [cnt_succ, List.length_singleton]; omega⟩
      rw [List.mem_singleton.mp hy]
      rcases wv_cases h with rfl | ⟨l, rfl, hl⟩ | ⟨m, rfl, _, hm⟩ | ⟨e, f, rfl, he, hf⟩ | ⟨e, rfl, he⟩ | ⟨e, rfl, he⟩
      · cases q
      · cases q; exact hl
      · cases q
      · cases q
      · cases q
      · cases q
    | none =>
      have e : letW (n + 1) d = ((pts d).map (letW n)).flatten := by rw [letW, q]
      rw [e]
      constructor
      · intro x hx
        obtain ⟨y, hy, hx⟩ := mem_flat.mp hx
        exact (let_letters n y (pts_wv h y hy)).1 x hx
      · rw [flat_len (letW n) (fun y => (letW n y).length) _ fun _ _ => rfl, cnt_succ]
        have : ∀ l : List D, (∀ x ∈ l, wvD sc n x = true) → (l.map fun y => (letW n y).length).sum ≤ (l.map (cnt n)).sum := by
          intro l
          induction l with
          | nil => intro _; exact Nat.le_refl _
          | cons x l ih =>
            intro hl
            rw [List.map_cons, List.map_cons, List.sum_cons, List.sum_cons]
            have := ih fun y hy => hl y (.tail _ hy)
            have := (let_letters n x (hl x (.head _))).2
            omega
        have := this (pts d) (pts_wv h)
        omega
theorem wv_up {sc : List Str} : ∀ (n m : Nat) (d : D), wvD sc n d = true → n ≤ m → wvD sc m d = true ∧ cnt m d = cnt n d
  | 0, _, _, h, _ => by cases h
  | n + 1, 0, _, _, q => absurd q (by omega)
  | n + 1, m + 1, d, h, q => by
    rw [wvD, Bool.and_eq_true, Bool.and_eq_true, List.all_eq_true] at h
    obtain ⟨h1, h2, h3⟩ := h
    have ih : ∀ x ∈ (partsD d).getD [], wvD sc m x = true ∧ cnt m x = cnt n x := fun x hx => wv_up n m x (h2 x hx) (by omega)
    constructor
    · rw [wvD, h1, h3, List.all_eq_true.mpr fun x hx => (ih x hx).1]
      rfl
    · rw [cnt_succ, cnt_succ]; unfold pts; rw [List.map_congr_left fun x hx => (ih x hx).2]
/-! ### the weave of a row of letters -/
def lineD : List D → D
  | [] => .tup [.str "none"]
  | [x] => .tup [.str "letter", x]
  | x :: y :: r => .tup [.str "then", .tup [.str "letter", x], lineD (y :: r)]
theorem line_ok {sc : List Str} : ∀ l : List D, (∀ x ∈ l, letterD sc x = true) → wvD sc (l.length + 1) (lineD l) = true ∧ tdW (l.length + 1) (lineD l) = some l ∧ cnt (l.length + 1) (lineD l) ≤ 2 * l.length + 1
  | [], _ => ⟨wv_none sc 0, rfl, Nat.le_refl _⟩
  | [x], h => by
    have hx := h x (.head _)
    cases x with
    | tup l => exact ⟨wv_letter 1 hx, rfl, by show 1 ≤ 3; decide⟩
    | _ => cases hx
  | x :: y :: r, h => by
    obtain ⟨h1, h2, h3⟩ := line_ok (y :: r) fun z hz => h z (.tail _ hz)
    have hx := h x (.head _)
    cases x with
    | tup l =>
      refine ⟨wv_then (wv_letter _ hx) h1, ?_, ?_⟩
      · show (if [some [D.tup l], tdW ((y :: r).length + 1) (lineD (y :: r))].any (·.isNone) = true then none else some ([some [D.tup l], tdW ((y :: r).length + 1) (lineD (y :: r))].map (·.getD [])).flatten : Option (List D)) = _
        rw [h2]
        simp
      · show 1 + ([cnt ((y :: r).length + 1) (.tup [.str "letter", .tup l]), cnt ((y :: r).length + 1) (lineD (y :: r))]).sum ≤ _
        have e : cnt ((y :: r).length + 1) (.tup [.str "letter", .tup l]) = 1 := rfl
        rw [e]
        simp only [List.sum_cons, List.sum_nil, List.length_cons] at h3 ⊢
        omega
    | _ => cases hx
end K0
end
section
set_option Elab.async false
set_option linter.all false
set_option maxRecDepth 100000
set_option maxHeartbeats 4000000
namespace K0
open PySem PySem.Spec PyProof.Rows L2 Al RT
variable {P : Program} {w : World} {K : PySem.W.Frag} {mg : Str → Option Value} {base : Heap} {a : Ad}
local macro_rules
  | `(tactic| contradiction) => `(tactic| first
    | with_reducible refine rs_seq ?_ | with_reducible refine rs_if ?_ | with_reducible refine rs_ret ?_ | with_reducible refine rt_and ?_ | with_reducible refine rt_or ?_ | with_reducible refine rt_not ?_ | with_reducible refine rt_test ?_ | with_reducible refine rt_B ?_ | with_reducible refine rs_asg ?_ | with_reducible refine rs_par ?_
    | with_reducible refine re_cb ?_ | with_reducible refine re_op ?_ | with_reducible refine re_if ?_ | with_reducible refine re_un ?_ | with_reducible refine ra_cons ?_ | with_reducible refine ra_nil ?_ | with_reducible refine re_int ?_ | with_reducible refine re_str ?_ | with_reducible refine re_bl ?_ | with_reducible refine re_non ?_ | with_reducible refine re_ty ?_ 
    | refine re_var rfl (fun z => by cases z) ?_ | with_reducible refine rr_b ?_ | with_reducible refine rr_i ?_ | with_reducible refine ru_i ?_
    | with_reducible refine rc_isi rfl (by first | exact (show kitB _ _ = some true by decide +kernel) | exact (show kitB _ _ = some false by decide +kernel)) ?_
    | with_reducible refine rc_len rfl ?_ | with_reducible refine rr_ix rfl atI_0 ?_ | with_reducible refine rr_ix rfl atI_1 ?_
    | with_reducible refine rr_eqF rfl ?_ | with_reducible refine rr_neF rfl ?_ | with_reducible refine rr_addI ?_ | with_reducible refine rc_abs ?_ | with_reducible refine rc_int ?_ | with_reducible refine rc_min ?_
    | refine ⟨_, rfl, ?_⟩ | rw [if_pos rfl] | rw [if_neg Bool.false_ne_true] | with_reducible refine rs_next ?_ | (with_reducible refine ift ?_ ?_; focus (simp; done)) | (with_reducible refine iff' ?_ ?_; focus (simp; done)) | dsimp only)
/-! ### node_count, letters_below, place_count -/
theorem wv_parts {sc : List Str} {n : Nat} {d : D} (h : wvD sc (n + 1) d = true) : partsD d = some (pts d) ∧ ∀ m, d = .tup m → m.length ≤ 1000 := by
  rcases wv_cases h with rfl | ⟨l, rfl, _⟩ | ⟨m, rfl, _, hm⟩ | ⟨e, f, rfl, he, hf⟩ | ⟨e, rfl, he⟩ | ⟨e, rfl, he⟩ <;> exact ⟨rfl, fun m e => by injection e with e; rw [← e]; simp⟩
theorem wv_head {sc : List Str} {n : Nat} {d : D} (h : wvD sc (n + 1) d = true) : ∃ u r, d = .tup (.str u :: r) ∧ ((∃ l, (u == "letter") = true ∧ r = [.tup l] ∧ letD d = some (.tup l)) ∨ ((u == "letter") = false ∧ letD d = none)) ∧ hdIs "then" d = (u == "then") := by
  rcases wv_cases h with rfl | ⟨l, rfl, _⟩ | ⟨m, rfl, _, hm⟩ | ⟨e, f, rfl, he, hf⟩ | ⟨e, rfl, he⟩ | ⟨e, rfl, he⟩
  · exact ⟨_, _, rfl, .inr ⟨rfl, rfl⟩, rfl⟩
  · exact ⟨_, _, rfl, .inl ⟨l, rfl, rfl, rfl⟩, rfl⟩
  · exact ⟨_, _, rfl, .inr ⟨rfl, rfl⟩, rfl⟩
  · exact ⟨_, _, rfl, .inr ⟨rfl, rfl⟩, rfl⟩
  · exact ⟨_, _, rfl, .inr ⟨rfl, rfl⟩, rfl⟩
  · exact ⟨_, _, rfl, .inr ⟨rfl, rfl⟩, rfl⟩
theorem take_sum (f : D → Nat) (l : List D) {i : Nat} {x : D} (h : l[i]? = some x) : ((l.take (i + 1)).map f).sum = ((l.take i).map f).sum + f x := by
  rw [List.take_add_one, h, List.map_append, List.sum_append]
  simp
def spNC (N : Nat) : Prm := fun xs O Pv => ∃ sc d n, xs = [.d d] ∧ n < N ∧ N ≤ 100 ∧ wvD sc n d = true ∧ Pv (.d (.int (cnt n d : Nat))) O
theorem ok_nc {k : Nat} (X : Txt K mg base a) : ∀ N : Nat, FnOk P w K mg base CX0 (k + 1 + 5 * N) a.f_node_count a.d_node_count ["weave"] (spOf K (T a) (spNC N))
  | 0 => fn_never fun xs O Pv ⟨sc, d, n, _, h, _⟩ => absurd h (Nat.not_lt_zero _)
  | N + 1 => by
    have G_node_count := ok_nc (k := k) X N
    have G_parts_of := ok_parts (P := P) (w := w) (k := k) X
    refine FnOk.mono (j := k + 1 + 5 * N + 4 + 1) ?_ (by omega)
    refine FunT.ok (k := k + 1 + 5 * N + 4) X.F_node_count sc_node_count ?_ fun A outer s H E hr => ⟨_, (pss_one (ps_ret (pe_op (op_addAK (K := K) rfl) pe_int (Gx.pe_sumG (own := ["part"]) (cp := []) hr rfl (by rfl) X.m_sum X.B_node_count rfl (Al.gok_by (N := ["weave"]) (sc := defScope s_node_count) (by decide +kernel)) (Al.pi_seqK (K := K) rfl (pe_call (G_parts_of) (hr.mono (by omega)) (by rfl) X.g_parts_of X.F_parts_of.kp X.b_parts_of .nil pass0 (pa_cons (pv 0) pa_nil))) (fun _ _ _ _ _ _ _ _ hg => (pg_name (i := 0) (show (["part"] : List Str).Nodup by decide +kernel) rfl (.inl rfl))) (fun _ _ _ _ _ _ _ _ hg => pts_nil) (fun _ _ _ _ _ _ _ _ hg => (pe_call (G_node_count) (hg.mono (by omega)) (by rfl) X.g_node_count X.F_node_count.kp X.b_node_count .nil pass0 (pa_cons (pv 0) pa_nil))))))), ?_⟩
    · rintro xs O Pv ⟨sc, d, n, rfl, _⟩
      rfl
    · rintro xs O Pv ⟨sc, d, n, rfl, hn, hN, hw, p⟩
      cases n with
      | zero => cases hw
      | succ n =>
        obtain ⟨hl, hd1⟩ := wv_parts hw
        refine rs_ret (re_op (re_int ?_))
        refine re_sumG (fun i => ((((pts d).take i).map (cnt n)).sum : Nat)) rfl (by simp [T, tabs]) (gin_name (by decide)) (ri_seq (re_callF ?_))
        repeat contradiction
        refine ⟨[], O, .refl _, d, pts d, rfl, hl, hd1, ?_⟩
        refine ⟨_, _, rfl, rfl, fun i O' => O' = O, rfl, ?_, ?_⟩
        · rintro O' rfl
          refine rr_addI ?_
          rw [List.take_length]
          have e : (1 : Int) + (((pts d).map (cnt n)).sum : Nat) = ((cnt (n + 1) d : Nat) : Int) := by rw [cnt_succ]; push_cast; rfl
          rw [e]
          exact p
        · rintro i dd O' rfl hi
          refine rg_name (rt_yes ⟨rfl, re_callF ?_⟩)
          repeat contradiction
          refine ⟨[], O', .refl _, sc, dd, n, rfl, by omega, by omega, pts_wv hw dd (List.mem_of_getElem? hi), ?_⟩
          refine ⟨_, rfl, ?_, rfl⟩
          rw [take_sum _ _ hi]
          push_cast
          rfl
def spLB (N : Nat) : Prm := fun xs O Pv => ∃ sc d n, xs = [.d d] ∧ n < N ∧ N ≤ 100 ∧ wvD sc n d = true ∧ cnt n d ≤ 1000 ∧ Pv (.d (.lst (letW n d))) O
theorem ok_lb {k : Nat} (X : Txt K mg base a) : ∀ N : Nat, FnOk P w K mg base CX0 (k + 1 + N) a.f_letters_below a.d_letters_below ["weave"] (spOf K (T a) (spLB N))
  | 0 => fn_never fun xs O Pv ⟨sc, d, n, _, h, _⟩ => absurd h (Nat.not_lt_zero _)
  | N + 1 => by
    have G_letters_below := ok_lb (k := k) X N
    have G_parts_of := ok_parts (P := P) (w := w) (k := k) X
    refine FunT.ok (k := k + 1 + N) X.F_letters_below sc_letters_below ?_ fun A outer s H E hr => ⟨_, (pss_cons (ps_if (pt_cmpR (op_eqAK (K := K) rfl (Al.room_u hr)) (pe_ix (ix_seqK (K := K) rfl) (pv 0) pe_int (fun _ _ => rfl)) pe_str (nomark _)) (pss_one (ps_ret (pe_lst (pa_cons (pe_ix (ix_seqK (K := K) rfl) (pv 0) pe_int (fun _ _ => rfl)) pa_nil)))) pss_nil) (pss_cons (ps_set (i := 1) sc_letters_below.nd rfl (by first | exact .inl rfl | exact .inr rfl) (pe_lst pa_nil)) (pss_cons (ps_for PassesOwn.never rfl (Al.pi_seqK (K := K) rfl (pe_call (G_parts_of) (hr.mono (by omega)) (by rfl) X.g_parts_of X.F_parts_of.kp X.b_parts_of .nil pass0 (pa_cons (pv 0) pa_nil))) (pg_name (i := 2) sc_letters_below.nd rfl (by first | exact .inl rfl | exact .inr rfl)) (pss_one (ps_expr (pe_bm PySem.F.plainAttrs_list PySem.F.slot_list_extend PySem.F.type_list_extend mt_extend (pv 1) (pa_cons (pe_call (G_letters_below) (hr.mono (by omega)) (by rfl) X.g_letters_below X.F_letters_below.kp X.b_letters_below .nil pass0 (pa_cons (pv 2) pa_nil)) pa_nil))))) (pss_one (ps_ret (pv 1)))))), ?_⟩
    · rintro xs O Pv ⟨sc, d, n, rfl, _⟩
      rfl
    · rintro xs O Pv ⟨sc, d, n, rfl, hn, hN, hw, hc, p⟩
      cases n with
      | zero => cases hw
      | succ n =>
        obtain ⟨hl, hd1⟩ := wv_parts hw
        obtain ⟨u, r, rfl, hd, _⟩ := wv_head hw
        repeat contradiction
        rw [show eqD (.str u) (.str "letter") = (u == "letter") from rfl]
        rcases hd with ⟨l, hu, rfl, hq⟩ | ⟨hu, hq⟩
        · refine ift hu ?_
          repeat contradiction
          refine re_lstD ?_
          repeat contradiction
          refine ⟨rfl, ?_⟩
          have e : letW (n + 1) (.tup [.str u, .tup l]) = [.tup l] := by rw [letW, hq]
          rw [e] at p
          exact p
        · refine iff' hu ?_
          refine rs_next ?_
          repeat contradiction
          refine re_lstOD ?_
          repeat contradiction
          refine ⟨rfl, fun pf => ?_⟩
          refine rs_seq (rs_for (ri_seq (re_callF ?_)))
          repeat contradiction
          refine ⟨[], _, .refl _, _, _, rfl, hl, hd1, ?_⟩
          have el : letW (n + 1) (.tup (.str u :: r)) = ((pts (.tup (.str u :: r))).map (letW n)).flatten := by rw [letW, hq]
          have hlen := (let_letters (n + 1) _ hw).2
          refine ⟨_, _, rfl, rfl, fun i ρ' O' => O' = (pf, .ls (((pts (.tup (.str u :: r))).take i).map (letW n)).flatten) :: O ∧ ∃ z, ρ' = [.d (.tup (.str u :: r)), .o pf, z], ⟨rfl, _, rfl⟩, ?_, ?_⟩
          · rintro ρ' O' ⟨rfl, z, rfl⟩
            rw [List.take_length, ← el]
            refine rs_freeze (i := 1) rfl ?_
            repeat contradiction
            exact p
          · rintro i dd ρ' O' ⟨rfl, z, rfl⟩ hi
            have hm := List.mem_of_getElem? hi
            have hle : ((((pts (.tup (.str u :: r))).take (i + 1)).map (letW n)).flatten).length ≤ 1000 := by
              have h1 : ((pts (.tup (.str u :: r))).map (letW n)).flatten = (((pts (.tup (.str u :: r))).take (i + 1)).map (letW n)).flatten ++ (((pts (.tup (.str u :: r))).drop (i + 1)).map (letW n)).flatten := by
                rw [← List.flatten_append, ← List.map_append, List.take_append_drop]
              rw [← el] at h1
              have := congrArg List.length h1
              rw [List.length_append] at this
              omega
            have et : (((pts (.tup (.str u :: r))).take (i + 1)).map (letW n)).flatten = (((pts (.tup (.str u :: r))).take i).map (letW n)).flatten ++ letW n dd := by
              rw [List.take_add_one, hi, List.map_append, List.flatten_append]
              simp
            rw [et, List.length_append] at hle
            refine rg_name (rs_drop (re_extend ?_))
            repeat contradiction
            refine ⟨pf, _, rfl, .head _, re_callF ?_⟩
            repeat contradiction
            have hcd : cnt n dd ≤ 1000 := by
              have := mem_sum (f := cnt n) hm
              rw [cnt_succ] at hc
              omega
            refine ⟨[], _, .refl _, sc, dd, n, rfl, by omega, by omega, pts_wv hw dd hm, hcd, ?_⟩
            refine ⟨_, _, _, rfl, .refl _, Nat.le_of_lt (small1000 hle), ?_⟩
            exact ⟨by rw [et], _, rfl⟩
theorem eq_oD (c : Option Nat) : scalD (oD c) (.int 0) = true ∧ eqD (oD c) (.int 0) = (c == some 0) := by
  cases c with
  | none => exact ⟨rfl, rfl⟩
  | some k =>
    refine ⟨rfl, ?_⟩
    show ((k : Int) == 0) = (some k == some 0)
    rw [Bool.eq_iff_iff]
    simp
theorem eq_oN (c : Option Nat) : eqD (oD c) .non = c.isNone := by cases c <;> rfl
theorem oD_plain (c : Option Nat) (m : Nat) : Al.plain m (oD c) = true := by cases c <;> cases m <;> rfl
theorem pl_all {m : Nat} {l : List D} (h : ∀ x ∈ l, Al.plain m x = true) : plainL m l = true := plainL_of h
def spPC (N : Nat) : Prm := fun xs O Pv => ∃ sc d n, xs = [.d d] ∧ n < N ∧ N ≤ 100 ∧ wvD sc n d = true ∧ cnt n d ≤ 1000 ∧ Pv (.d (oD (plW n d))) O
theorem ok_pc {k : Nat} (X : Txt K mg base a) : ∀ N : Nat, FnOk P w K mg base CX0 (k + 6 + N) a.f_place_count a.d_place_count ["weave"] (spOf K (T a) (spPC N))
  | 0 => fn_never fun xs O Pv ⟨sc, d, n, _, h, _⟩ => absurd h (Nat.not_lt_zero _)
  | N + 1 => by
    have G_place_count := ok_pc (k := k) X N
    have G_parts_of := ok_parts (P := P) (w := w) (k := k) X
    refine FnOk.mono (j := k + 2 + N + 4 + 1) ?_ (by omega)
    refine FunT.ok (k := k + 2 + N + 4) X.F_place_count sc_place_count ?_ fun A outer s H E hr => ⟨_, (pss_cons (ps_if (pt_cmpR (op_eqAK (K := K) rfl (Al.room_u hr)) (pe_ix (ix_seqK (K := K) rfl) (pv 0) pe_int (fun _ _ => rfl)) pe_str (nomark _)) (pss_one (ps_ret pe_int)) pss_nil) (pss_cons (ps_setLc (i := 1) (own := [("part", 2)]) rfl sc_place_count.nd rfl rfl (sw_true rfl rfl rfl (by decide +kernel)) (Al.pi_seqK (K := K) rfl (pe_call (G_parts_of) (hr.mono (by omega)) (by rfl) X.g_parts_of X.F_parts_of.kp X.b_parts_of .nil pass0 (pa_cons (pv 0) pa_nil))) (blkOk_by (own := [("part", 2)]) (N := ["weave", "counts", "part"]) (sc := defScope s_place_count) (by decide +kernel)) (fun _ _ _ _ _ => (pg_name (i := 2) sc_place_count.nd rfl (by first | exact .inl rfl | exact .inr rfl))) (fun _ _ _ _ _ => pts_nil) (fun _ _ _ _ _ => (pe_call (G_place_count) (hr.mono (by omega)) (by rfl) X.g_place_count X.F_place_count.kp X.b_place_count .nil pass0 (pa_cons (pv 2) pa_nil)))) (pss_cons (ps_if (pt_cmpR (op_neAK (K := K) rfl (Al.room_u hr)) (pe_ix (ix_seqK (K := K) rfl) (pv 0) pe_int (fun _ _ => rfl)) pe_str (nomark _)) (pss_one (ps_ret (pe_ifExp (pt_val (Gx.pe_allG (own := ["count"]) (cp := []) hr rfl (by rfl) X.m_all X.B_place_count rfl (Al.gok_by (N := ["weave", "counts", "part"]) (sc := defScope s_place_count) (by decide +kernel)) (Al.pi_seqK (K := K) rfl (pv 1)) (fun _ _ _ _ _ _ _ _ hg => (pg_name (i := 0) (show (["count"] : List Str).Nodup by decide +kernel) rfl (.inl rfl))) (fun _ _ _ _ _ _ _ _ hg => pts_nil) (fun _ _ _ _ _ _ _ _ hg => (pe_cmpR (op_eqAK (K := K) rfl (Al.room_u hg)) (pv 0) pe_int (nomark _))))) pe_int pe_non))) pss_nil) (pss_one (ps_ret (pe_ifExp (pt_cmpR (op_inDK (K := K) rfl (Al.room_u65 hr)) pe_non (pv 1) (by rfl)) pe_non (pe_op (op_addAK (K := K) rfl) (pe_ix (ix_seqK (K := K) rfl) (pv 1) pe_int (fun _ _ => rfl)) (pe_ix (ix_seqK (K := K) rfl) (pv 1) pe_int (fun _ _ => rfl))))))))), ?_⟩
    · rintro xs O Pv ⟨sc, d, n, rfl, _⟩
      rfl
    · rintro xs O Pv ⟨sc, d, n, rfl, hn, hN, hw, hc, p⟩
      cases n with
      | zero => cases hw
      | succ n =>
        obtain ⟨hl, hd1⟩ := wv_parts hw
        obtain ⟨u, r, rfl, hd, ht⟩ := wv_head hw
        have hpw := pts_wv hw
        repeat contradiction
        rw [show eqD (.str u) (.str "letter") = (u == "letter") from rfl]
        rcases hd with ⟨l, hu, rfl, hq⟩ | ⟨hu, hq⟩
        · refine ift hu ?_
          repeat contradiction
          have e : plW (n + 1) (.tup [.str u, .tup l]) = some 1 := by rw [plW, hq]
          rw [e] at p
          exact p
        · refine iff' hu ?_
          refine rs_next ?_
          repeat contradiction
          refine re_lc (gin_name (by decide)) (ri_seq (re_callF ?_))
          repeat contradiction
          refine ⟨[], O, .refl _, _, _, rfl, hl, hd1, ?_⟩
          have hcl := len_cnt hpw
          rw [cnt_succ] at hc
          refine ⟨_, _, rfl, rfl, fun i acc O' => O' = O ∧ acc = ((pts (.tup (.str u :: r))).take i).map (fun x => oD (plW n x)) ∧ acc.length ≤ i, ⟨rfl, rfl, Nat.le_refl _⟩, small1000 (by omega), ?_, ?_⟩
          · rintro acc O' ⟨rfl, rfl, _⟩
            rw [List.take_length]
            repeat contradiction
            rw [show eqD (.str u) (.str "then") = hdIs "then" (.tup (.str u :: r)) from rfl]
            cases hh : hdIs "then" (.tup (.str u :: r)) with
            | false =>
              refine ift rfl ?_
              refine rs_ret (re_if (rt_test ?_))
              have pe : plW (n + 1) (.tup (.str u :: r)) = if ((pts (.tup (.str u :: r))).map (plW n)).all (· == some 0) = true then some 0 else none := by rw [plW, hq, hh]; rfl
              rw [pe] at p
              refine re_allG (by simp [T, tabs]) (gin_name (by decide)) (ri_seq ?_)
              repeat contradiction
              refine ⟨_, _, rfl, rfl, fun i O2 => O2 = O' ∧ (((pts (.tup (.str u :: r))).take i).map (plW n)).all (· == some 0) = true, ⟨rfl, rfl⟩, ?_, ?_⟩
              · rintro O2 ⟨rfl, h⟩
                rw [List.length_map, List.take_length] at h
                rw [if_pos h] at p
                refine ⟨true, rfl, ift rfl ?_⟩
                repeat contradiction
                exact p
              · rintro i dd O2 ⟨rfl, h⟩ hi
                rw [List.getElem?_map] at hi
                obtain ⟨x, hx, rfl⟩ := Option.map_eq_some_iff.mp hi
                refine rg_name (rt_yes ?_)
                repeat contradiction
                obtain ⟨e1, e2⟩ := eq_oD (plW n x)
                refine rr_eqF e1 ?_
                rw [e2]
                refine ⟨_, rfl, ?_⟩
                cases hz : (plW n x == some 0) with
                | true =>
                  refine ift rfl ⟨rfl, ?_⟩
                  rw [List.take_add_one, hx, List.map_append, List.all_append, h]
                  simpa using hz
                | false =>
                  refine iff' rfl ⟨false, rfl, iff' rfl ?_⟩
                  have : ((pts (.tup (.str u :: r))).map (plW n)).all (· == some 0) = false := by
                    rw [List.all_eq_false]
                    exact ⟨_, List.mem_map.mpr ⟨x, List.mem_of_getElem? hx, rfl⟩, by rw [hz]; exact Bool.false_ne_true⟩
                  rw [this, if_neg Bool.false_ne_true] at p
                  repeat contradiction
                  exact p
            | true =>
              refine iff' rfl ?_
              refine rs_next (rs_ret (re_if ?_))
              have pe : plW (n + 1) (.tup (.str u :: r)) = if ((pts (.tup (.str u :: r))).map (plW n)).any (·.isNone) = true then none else some (((pts (.tup (.str u :: r))).map (plW n)).map (·.getD 0)).sum := by rw [plW, hq, hh]; rfl
              obtain ⟨e, f, hef⟩ : ∃ e f, pts (.tup (.str u :: r)) = [e, f] := by
                rcases wv_cases hw with z | ⟨l, z, _⟩ | ⟨m, z, _, hm⟩ | ⟨e, f, z, he, hf⟩ | ⟨e, z, he⟩ | ⟨e, z, he⟩
                · rw [z] at hh; cases hh
                · rw [z] at hh; cases hh
                · rw [z] at hh; cases hh
                · exact ⟨e, f, by rw [z]; rfl⟩
                · rw [z] at hh; cases hh
                · rw [z] at hh; cases hh
              rw [hef] at pe
              rw [pe] at p
              rw [hef]
              show RunT K (T a) _ [_, .d (.lst [oD (plW n e), oD (plW n f)]), _] _ _
              have p : Pv (.d (oD (if [plW n e, plW n f].any (·.isNone) = true then none else some ([plW n e, plW n f].map (·.getD 0)).sum))) O' := p
              refine rt_test ?_
              repeat contradiction
              refine rr_inP (n := 0) (m := 0) rfl (pl_all fun x hx => ?_) (by decide) (by decide) ?_
              · simp only [List.mem_cons, List.not_mem_nil, or_false] at hx
                rcases hx with rfl | rfl <;> exact oD_plain _ _
              · have ei : inP .non [oD (plW n e), oD (plW n f)] = [plW n e, plW n f].any (·.isNone) := by
                  simp only [inP, List.any_cons, List.any_nil, eq_oN]
                rw [ei]
                refine ⟨_, rfl, ?_⟩
                cases q1 : plW n e with
                | none =>
                  rw [q1] at p
                  refine ift rfl ?_
                  repeat contradiction
                  exact p
                | some c1 =>
                  cases q2 : plW n f with
                  | none =>
                    rw [q1, q2] at p
                    refine ift rfl ?_
                    repeat contradiction
                    exact p
                  | some c2 =>
                    rw [q1, q2] at p
                    refine iff' rfl ?_
                    repeat contradiction
                    have e3 : oD (if [some c1, some c2].any (·.isNone) = true then none else some ([some c1, some c2].map (·.getD 0)).sum) = .int ((c1 : Int) + (c2 : Int)) := by
                      show D.int (((c1 + (c2 + 0) : Nat)) : Int) = _
                      push_cast
                      rw [Int.add_zero]
                    rw [e3] at p
                    rw [q1, q2]
                    exact rr_addI p
          · rintro i dd acc O' ⟨rfl, rfl, hal⟩ hi
            have hm := List.mem_of_getElem? hi
            refine rg_name (rt_yes (re_callF ?_))
            repeat contradiction
            have := mem_sum (f := cnt n) hm
            refine ⟨[], O', .refl _, sc, dd, n, rfl, by omega, by omega, hpw dd hm, by omega, ?_⟩
            refine ⟨_, rfl, hal, rfl, ?_, by rw [List.length_append]; exact Nat.succ_le_succ hal⟩
            rw [List.take_add_one, hi]
            simp
end K0
end
section
set_option Elab.async false
set_option linter.all false
set_option maxRecDepth 100000
set_option maxHeartbeats 4000000
namespace K0
open PySem PySem.Spec PyProof.Rows L2 Al RT
variable {P : Program} {w : World} {K : PySem.W.Frag} {mg : Str → Option Value} {base : Heap} {a : Ad}
local macro_rules
  | `(tactic| contradiction) => `(tactic| first
    | with_reducible refine rs_seq ?_ | with_reducible refine rs_if ?_ | with_reducible refine rs_ret ?_ | with_reducible refine rt_and ?_ | with_reducible refine rt_or ?_ | with_reducible refine rt_not ?_ | with_reducible refine rt_test ?_ | with_reducible refine rt_B ?_ | with_reducible refine rs_asg ?_ | with_reducible refine rs_par ?_
    | with_reducible refine re_cb ?_ | with_reducible refine re_op ?_ | with_reducible refine re_if ?_ | with_reducible refine re_un ?_ | with_reducible refine ra_cons ?_ | with_reducible refine ra_nil ?_ | with_reducible refine re_int ?_ | with_reducible refine re_str ?_ | with_reducible refine re_bl ?_ | with_reducible refine re_non ?_ | with_reducible refine re_ty ?_ 
    | refine re_var rfl (fun z => by cases z) ?_ | with_reducible refine rr_b ?_ | with_reducible refine rr_i ?_ | with_reducible refine ru_i ?_
    | with_reducible refine rc_isi rfl (by first | exact (show kitB _ _ = some true by decide +kernel) | exact (show kitB _ _ = some false by decide +kernel)) ?_
    | with_reducible refine rc_len rfl ?_ | with_reducible refine rr_ix rfl atI_0 ?_ | with_reducible refine rr_ix rfl atI_1 ?_
    | with_reducible refine rr_eqF rfl ?_ | with_reducible refine rr_neF rfl ?_ | with_reducible refine rr_addI ?_ | with_reducible refine rc_abs ?_ | with_reducible refine rc_int ?_ | with_reducible refine rc_min ?_
    | refine ⟨_, rfl, ?_⟩ | rw [if_pos rfl] | rw [if_neg Bool.false_ne_true] | with_reducible refine rs_next ?_ | (with_reducible refine ift ?_ ?_; focus (simp; done)) | (with_reducible refine iff' ?_ ?_; focus (simp; done)) | dsimp only)
/-! ### rows of letters -/
theorem cut_init (l : List D) : Al.cutD l none (some (-1)) = l.dropLast := by
  unfold Al.cutD
  rw [HT.sIx_none]
  have e : HT.sIx l.length l.length (some (-1)) = l.length - 1 := by
    show (if (-1 : Int) < 0 then ((-1 : Int) + (l.length : Int)).toNat else min (-1 : Int).toNat l.length) = _
    rw [if_pos (by decide)]
    omega
  rw [e, List.drop_zero, Nat.sub_zero, List.dropLast_eq_take]
def ltr (x : D) : D := .tup [.str "letter", x]
theorem line_cons (x : D) : ∀ {s : List D}, s ≠ [] → lineD (x :: s) = .tup [.str "then", ltr x, lineD s]
  | [], h => absurd rfl h
  | _ :: _, _ => rfl
/-- the i-th of a row without its last one, from behind -/
theorem rev_init {l : List D} {i : Nat} {x : D} (h : l.dropLast.reverse[i]? = some x) : l.drop (l.length - 1 - (i + 1)) = x :: l.drop (l.length - 1 - i) ∧ i + 1 < l.length := by
  have hi := (List.getElem?_eq_some_iff.mp h).1
  rw [List.length_reverse, List.length_dropLast] at hi
  rw [List.getElem?_reverse (by rw [List.length_dropLast]; exact hi), List.length_dropLast, List.getElem?_dropLast] at h
  rw [if_pos (by omega)] at h
  obtain ⟨h1, h2⟩ := List.getElem?_eq_some_iff.mp h
  have e : l.length - 1 - (i + 1) = l.length - 1 - 1 - i := by omega
  refine ⟨?_, by omega⟩
  rw [e, List.drop_eq_getElem_cons h1, h2]
  congr 2
  omega
theorem last_drop {l : List D} {y : D} (h : l.getLast? = some y) : l.drop (l.length - 1) = [y] := by
  obtain ⟨m, rfl⟩ := last_snoc h
  rw [List.length_append, List.length_singleton, Nat.add_sub_cancel, List.drop_append_of_le_length (Nat.le_refl _), List.drop_length]
  rfl
theorem has_last {l : List D} (h : l ≠ []) : ∃ y, l.getLast? = some y := by
  cases q : l.getLast? with
  | none => exact absurd (List.getLast?_eq_none_iff.mp q) h
  | some y => exact ⟨y, rfl⟩
def spIR : Prm := fun xs O Pv => ∃ l, xs = [.d (.lst (l.map ltr))] ∧ l.length ≤ 1000 ∧ Pv (.d (lineD l)) O
theorem ok_inrow {k : Nat} (X : Txt K mg base a) : FnOk P w K mg base CX0 (k + 1) a.f_in_row a.d_in_row ["weaves"] (spOf K (T a) spIR) := by
  refine X.F_in_row.ok sc_in_row ?_ fun A outer s H E hr => ⟨_, (pss_cons (ps_if (pt_cmpR (op_eqAK (K := K) rfl (Al.room_u hr)) (pe_callB (call_lenK (K := K) rfl) (by rfl) X.m_len (by decide +kernel) (pa_cons (pv 0) pa_nil)) pe_int (nomark _)) (pss_one (ps_ret (pe_tup (pa_cons pe_str pa_nil)))) pss_nil) (pss_cons (ps_set (i := 1) sc_in_row.nd rfl (by first | exact .inl rfl | exact .inr rfl) (pe_ix (ix_seqK (K := K) rfl) (pv 0) (pe_un un_neg pe_int) (fun _ _ => rfl))) (pss_cons (ps_for PassesOwn.never rfl (pi_revAK (K := K) rfl (by rfl) X.m_reversed (pe_slice (sl_anyK (K := K) rfl) (pv 0) po_none (po_some (pe_un un_neg pe_int)))) (pg_name (i := 2) sc_in_row.nd rfl (by first | exact .inl rfl | exact .inr rfl)) (pss_one (ps_set (i := 1) sc_in_row.nd rfl (by first | exact .inl rfl | exact .inr rfl) (pe_tup (pa_cons pe_str (pa_cons (pv 2) (pa_cons (pv 1) pa_nil))))))) (pss_one (ps_ret (pv 1)))))), ?_⟩
  · rintro xs O Pv ⟨l, rfl, _⟩
    rfl
  · rintro xs O Pv ⟨l, rfl, hl, p⟩
    repeat contradiction
    by_cases hn : l = []
    · subst hn
      refine ift rfl ?_
      refine rs_ret (re_tupD ?_)
      repeat contradiction
      exact ⟨rfl, p⟩
    · have hpos : 0 < l.length := List.length_pos_iff.mpr hn
      refine iff' (by show (((List.length (l.map ltr) : Nat) : Int) == 0) = false; rw [beq_eq_false_iff_ne, List.length_map]; omega) ?_
      refine rs_next ?_
      obtain ⟨y, hy⟩ := has_last hn
      repeat contradiction
      refine rr_ix rfl (atI_last (y := ltr y) (by rw [List.getLast?_map, hy]; rfl)) ?_
      refine rs_seq (rs_for (ri_rev (re_slL ?_)))
      repeat contradiction
      refine ro_none (ro_some ?_)
      repeat contradiction
      refine ⟨_, _, rfl, rfl, ?_⟩
      have ec : (Al.cutD (l.map ltr) none (some (-1))).reverse = l.dropLast.reverse.map ltr := by rw [cut_init, List.map_reverse, List.map_dropLast]
      refine ⟨fun i ρ' O' => O' = O ∧ ∃ z, ρ' = [.d (.lst (l.map ltr)), .d (lineD (l.drop (l.length - 1 - i))), z], ⟨rfl, _, by rw [Nat.sub_zero, last_drop hy]; rfl⟩, ?_, ?_⟩
      · rintro ρ' O' ⟨rfl, z, rfl⟩
        rw [show (-1 : Int) = -1 from rfl] at *
        have e0 : l.length - 1 - ((Al.cutD (l.map ltr) none (some (-1))).reverse).length = 0 := by rw [ec, List.length_map, List.length_reverse, List.length_dropLast]; omega
        rw [e0, List.drop_zero]
        repeat contradiction
        exact p
      · rintro i dd ρ' O' ⟨rfl, z, rfl⟩ hi
        have hi2 : (l.dropLast.reverse.map ltr)[i]? = some dd := by rw [← ec]; exact hi
        rw [List.getElem?_map] at hi2
        obtain ⟨x, hx, rfl⟩ := Option.map_eq_some_iff.mp hi2
        obtain ⟨e1, e2⟩ := rev_init hx
        refine rg_name ?_
        repeat contradiction
        refine re_tupD ?_
        repeat contradiction
        refine ⟨rfl, ?_⟩
        refine ⟨rfl, .d (ltr x), ?_⟩
        rw [e1, line_cons x (fun z => by have := congrArg List.length z; rw [List.length_drop] at this; simp at this; omega)]
        rfl
/-! ### what is a weave -/
structure WOk (sc : List Str) (n : Nat) (d : D) : Prop where
  hs : scopeD (.tup (txts sc)) = true
  wv : wvD sc n d = true
  n30 : n ≤ 30
  cn : cnt n d ≤ 200
theorem WOk.isw {sc : List Str} {n : Nat} {d : D} (h : WOk sc n d) : cl (2 * n) d = true ∧ 2 * n ≤ 64 ∧ okW sc 60 d 400 = true := by
  obtain ⟨h3, hsc⟩ := scope_txts h.hs
  have := h.n30
  have := h.cn
  refine ⟨wv_cl hsc h3 n d h.wv (by omega), by omega, ?_⟩
  obtain ⟨w1, w2⟩ := wv_up n 60 d h.wv (by omega)
  unfold okW
  rw [w1, w2, Bool.true_and]
  exact decide_eq_true (by omega)
def spNW : Prm := fun xs O Pv => ∃ sc d n, xs = [.d (.tup (txts sc)), .d d] ∧ WOk sc n d ∧ Pv (.d .non) O
def sx2 (R : D → D → Prop) : List Sl → Own → (Own → Prop) → Prop := fun xs O PX => ∃ d y, xs = [.d d, .d y] ∧ R d y ∧ PX O
/-- no scope -/
def R1 (d y : D) : Prop := smallL d ∧ scopeD d = false
/-- a scope, no weave of it -/
def R2 (d y : D) : Prop := ∃ sc c, d = .tup (txts sc) ∧ scopeD (.tup (txts sc)) = true ∧ cl c y = true ∧ c ≤ 64 ∧ okW sc 60 y 400 = false
theorem raise_imp {Tb : List Addr} {C : Addr} {S S' : List Sl → Own → (Own → Prop) → Prop} (h : ∀ xs O PX, S' xs O PX → S xs O PX) : ∀ vs H Q E, spRaise K Tb C S' vs H Q E → spRaise K Tb C S vs H Q E :=
  fun vs H Q E ⟨F, O, Ξ, xs, PX, wd, ra, hS, q⟩ => ⟨F, O, Ξ, xs, PX, wd, ra, h _ _ _ hS, q⟩
theorem ok_nw {k : Nat} (X : Txt K mg base a) (hk : ∀ F, Rp K F (.tup (txts kept)) (.ref a.o_KEPT)) (hS : KInts K w a.o_SHAPES shapes) (E_BadScope : ClsF K a.C_BadScope a.C_OrderError) (E_BadWeave : ClsF K a.C_BadWeave a.C_OrderError) : FnOk P w K mg base CX0 (k + 75) a.f_need_weave a.d_need_weave ["scope", "weave"] (spOf K (T a) spNW) := by
  have G_is_weave := ok_isw (P := P) (w := w) (k := k) X hk hS E_BadScope
  refine FunT.ok (k := k + 74) X.F_need_weave sc_need_weave ?_ fun A outer s H E hr => ⟨_, (pss_one (ps_if (pt_not (pt_val (pe_call (G_is_weave) (hr.mono (by omega)) (by rfl) X.g_is_weave X.F_is_weave.kp X.b_is_weave .nil pass0 (pa_cons (pv 0) (pa_cons (pv 1) pa_nil))))) (pss_one (ps_raise rfl takes0 (pmk_own PySem.F.excBase_ValueError E_BadWeave.xP X.g_BadWeave E_BadWeave.kP (raises_own E_BadWeave.bP E_BadWeave.tP) rfl))) pss_nil)), ?_⟩
  · rintro xs O Pv ⟨sc, d, n, rfl, _⟩
    rfl
  · rintro xs O Pv ⟨sc, d, n, rfl, hw, p⟩
    obtain ⟨h1, h2, h3⟩ := hw.isw
    repeat contradiction
    refine re_callF ?_
    repeat contradiction
    refine ⟨[], O, .refl _, sc, d, _, rfl, hw.hs, h1, h2, ?_⟩
    rw [h3]
    repeat contradiction
    exact p
theorem okx_nw1 {k : Nat} (X : Txt K mg base a) (hk : ∀ F, Rp K F (.tup (txts kept)) (.ref a.o_KEPT)) (hS : KInts K w a.o_SHAPES shapes) (E_BadScope : ClsF K a.C_BadScope a.C_OrderError) (E_BadWeave : ClsF K a.C_BadWeave a.C_OrderError) : FnOk P w K mg base (L2.CX P w) (k + 75) a.f_need_weave a.d_need_weave ["scope", "weave"] (spRaise K (T a) a.C_BadScope (sx2 R1)) := by
  have GX_is_weave := (okx_isw (P := P) (w := w) (k := k) X hk hS E_BadScope).imp (raise_imp (S' := sx2 R1) fun xs O PX ⟨d, y, e, ⟨r1, r2⟩, q⟩ => ⟨d, y, e, r1, r2, q⟩)
  refine FunT.okX (k := k + 74) X.F_need_weave sc_need_weave ?_ fun A outer s H E hr => ⟨_, (pss_one (ps_if (pt_not (pt_val (pe_callS (E := fun _ => E) GX_is_weave (hr.mono (by omega)) (by rfl) X.g_is_weave X.F_is_weave.kp X.b_is_weave (fun σ => passAt (takes_of rfl rfl rfl rfl) σ) (pa_cons (pv 0) (pa_cons (pv 1) pa_nil))))) (pss_one (ps_raise rfl (takes_of rfl rfl rfl rfl) (pmk_own PySem.F.excBase_ValueError E_BadWeave.xP X.g_BadWeave E_BadWeave.kP (raises_own E_BadWeave.bP E_BadWeave.tP) rfl))) pss_nil)), ?_⟩
  · rintro vs H Q E ⟨F, O, Ξ, xs, PX, wd, ra, ⟨d, y, rfl, _⟩, _⟩
    exact ra.length
  · rintro vs Q ⟨F, O, Ξ, xs, PX, wd, ra, ⟨d, y, rfl, hR, p⟩, q⟩
    have he := env_start (N := ["scope", "weave"]) ra
    have run : RunXE K (T a) a.C_BadScope (fun E => tCallS (spRaise K (T a) a.C_BadScope (sx2 R1)) (fun _ => E) (tCons (tVar 0) (tCons (tVar 1) tNil))) (startR 2 [.d d, .d y]) O PX := by
      refine rx_call ?_
      repeat contradiction
      exact ⟨_, _, rfl, hR, p⟩
    exact run F H Ξ _ wd he E _ q
theorem okx_nw2 {k : Nat} (X : Txt K mg base a) (hk : ∀ F, Rp K F (.tup (txts kept)) (.ref a.o_KEPT)) (hS : KInts K w a.o_SHAPES shapes) (E_BadScope : ClsF K a.C_BadScope a.C_OrderError) (E_BadWeave : ClsF K a.C_BadWeave a.C_OrderError) : FnOk P w K mg base (L2.CX P w) (k + 75) a.f_need_weave a.d_need_weave ["scope", "weave"] (spRaise K (T a) a.C_BadWeave (sx2 R2)) := by
  have G_is_weave := ok_isw (P := P) (w := w) (k := k) X hk hS E_BadScope
  refine FunT.okX (k := k + 74) X.F_need_weave sc_need_weave ?_ fun A outer s H E hr => ⟨_, (pss_one (ps_if (pt_not (pt_val (pe_call (G_is_weave) (hr.mono (by omega)) (by rfl) X.g_is_weave X.F_is_weave.kp X.b_is_weave .nil pass0 (pa_cons (pv 0) (pa_cons (pv 1) pa_nil))))) (pss_one (ps_raise rfl (takes_of rfl rfl rfl rfl) (pmk_own PySem.F.excBase_ValueError E_BadWeave.xP X.g_BadWeave E_BadWeave.kP (raises_own E_BadWeave.bP E_BadWeave.tP) rfl))) pss_nil)), ?_⟩
  · rintro vs H Q E ⟨F, O, Ξ, xs, PX, wd, ra, ⟨d, y, rfl, _⟩, _⟩
    exact ra.length
  · rintro vs Q ⟨F, O, Ξ, xs, PX, wd, ra, ⟨d, y, rfl, ⟨sc, c, rfl, hs, hc, h64, hno⟩, p⟩, q⟩
    have he := env_start (N := ["scope", "weave"]) ra
    have test : RunT K (T a) (tNot (tTest (tCall (spOf K (T a) spWeave) [] E0 (tCons (tVar 0) (tCons (tVar 1) tNil))))) (startR 2 [.d (.tup (txts sc)), .d y]) O fun b O' => b = true ∧ O' = O := by
      repeat contradiction
      refine re_callF ?_
      repeat contradiction
      refine ⟨[], O, .refl _, sc, y, c, rfl, hs, hc, h64, ?_⟩
      rw [hno]
      repeat contradiction
      exact ⟨rfl, rfl⟩
    refine test F H Ξ _ wd he _ fun b F' O' H' e1 w1 ⟨hb, hO⟩ => ?_
    subst hb
    subst hO
    exact q F' O' H' e1 w1 p
/-! ### size, letters_in, length, spelled -/
def spSize : Prm := fun xs O Pv => ∃ sc d n, xs = [.d (.tup (txts sc)), .d d] ∧ WOk sc n d ∧ Pv (.d (.int (cnt n d : Nat))) O
def spLen : Prm := fun xs O Pv => ∃ sc d n, xs = [.d (.tup (txts sc)), .d d] ∧ WOk sc n d ∧ Pv (.d (oD (plW n d))) O
def spLIn : Prm := fun xs O Pv => ∃ sc d n, xs = [.d (.tup (txts sc)), .d d] ∧ WOk sc n d ∧ Pv (.d (.tup ((rowD (txts sc)).filter fun x => inP x (letW n d)))) O
def spSpl : Prm := fun xs O Pv => ∃ sc d n l, xs = [.d (.tup (txts sc)), .d d] ∧ WOk sc n d ∧ tdW n d = some l ∧ Pv (.d (.tup l)) O
theorem ok_size {k : Nat} (X : Txt K mg base a) (G_need_weave : FnOk P w K mg base CX0 (k + 75) a.f_need_weave a.d_need_weave ["scope", "weave"] (spOf K (T a) spNW)) : FnOk P w K mg base CX0 (k + 160) a.f_size a.d_size ["scope", "weave"] (spOf K (T a) spSize) := by
  have G_node_count := ok_nc (P := P) (w := w) (k := k) X 31
  refine FunT.ok (k := k + 159) X.F_size sc_size ?_ fun A outer s H E hr => ⟨_, (pss_cons (ps_expr (pe_call (G_need_weave) (hr.mono (by omega)) (by rfl) X.g_need_weave X.F_need_weave.kp X.b_need_weave .nil pass0 (pa_cons (pv 0) (pa_cons (pv 1) pa_nil)))) (pss_one (ps_ret (pe_call (G_node_count) (hr.mono (by omega)) (by rfl) X.g_node_count X.F_node_count.kp X.b_node_count .nil pass0 (pa_cons (pv 1) pa_nil))))), ?_⟩
  · rintro xs O Pv ⟨sc, d, n, rfl, _⟩
    rfl
  · rintro xs O Pv ⟨sc, d, n, rfl, hw, p⟩
    have := hw.n30
    repeat contradiction
    refine rs_drop (re_callF ?_)
    repeat contradiction
    refine ⟨[], O, .refl _, sc, d, n, rfl, hw, ?_⟩
    refine rs_ret (re_callF ?_)
    repeat contradiction
    exact ⟨[], O, .refl _, sc, d, n, rfl, by omega, by decide, hw.wv, p⟩
theorem okx_size {k : Nat} (X : Txt K mg base a) {C : Addr} {R : D → D → Prop} (GX_need_weave : FnOk P w K mg base (L2.CX P w) (k + 75) a.f_need_weave a.d_need_weave ["scope", "weave"] (spRaise K (T a) C (sx2 R))) : FnOk P w K mg base (L2.CX P w) (k + 160) a.f_size a.d_size ["scope", "weave"] (spRaise K (T a) C (sx2 R)) := by
  have G_node_count := ok_nc (P := P) (w := w) (k := k) X 31
  refine FunT.okX (k := k + 159) X.F_size sc_size ?_ fun A outer s H E hr => ⟨_, (pss_cons (ps_expr (pe_callS (E := fun _ => E) GX_need_weave (hr.mono (by omega)) (by rfl) X.g_need_weave X.F_need_weave.kp X.b_need_weave (fun σ => passAt (takes_of rfl rfl rfl rfl) σ) (pa_cons (pv 0) (pa_cons (pv 1) pa_nil)))) (pss_one (ps_ret (pe_call (G_node_count) (hr.mono (by omega)) (by rfl) X.g_node_count X.F_node_count.kp X.b_node_count .nil pass0 (pa_cons (pv 1) pa_nil))))), ?_⟩
  · rintro vs H Q E ⟨F, O, Ξ, xs, PX, wd, ra, ⟨d, y, rfl, _⟩, _⟩
    exact ra.length
  · rintro vs Q ⟨F, O, Ξ, xs, PX, wd, ra, ⟨d, y, rfl, hR, p⟩, q⟩
    have he := env_start (N := ["scope", "weave"]) ra
    have run : RunXE K (T a) C (fun E => tCallS (spRaise K (T a) C (sx2 R)) (fun _ => E) (tCons (tVar 0) (tCons (tVar 1) tNil))) (startR 2 [.d d, .d y]) O PX := by
      refine rx_call ?_
      repeat contradiction
      exact ⟨_, _, rfl, hR, p⟩
    exact run F H Ξ _ wd he E _ q
theorem ok_length {k : Nat} (X : Txt K mg base a) (G_need_weave : FnOk P w K mg base CX0 (k + 75) a.f_need_weave a.d_need_weave ["scope", "weave"] (spOf K (T a) spNW)) : FnOk P w K mg base CX0 (k + 160) a.f_length a.d_length ["scope", "weave"] (spOf K (T a) spLen) := by
  have G_place_count := ok_pc (P := P) (w := w) (k := k) X 31
  refine FunT.ok (k := k + 159) X.F_length sc_length ?_ fun A outer s H E hr => ⟨_, (pss_cons (ps_expr (pe_call (G_need_weave) (hr.mono (by omega)) (by rfl) X.g_need_weave X.F_need_weave.kp X.b_need_weave .nil pass0 (pa_cons (pv 0) (pa_cons (pv 1) pa_nil)))) (pss_one (ps_ret (pe_call (G_place_count) (hr.mono (by omega)) (by rfl) X.g_place_count X.F_place_count.kp X.b_place_count .nil pass0 (pa_cons (pv 1) pa_nil))))), ?_⟩
  · rintro xs O Pv ⟨sc, d, n, rfl, _⟩
    rfl
  · rintro xs O Pv ⟨sc, d, n, rfl, hw, p⟩
    have := hw.n30
    have := hw.cn
    repeat contradiction
    refine rs_drop (re_callF ?_)
    repeat contradiction
    refine ⟨[], O, .refl _, sc, d, n, rfl, hw, ?_⟩
    refine rs_ret (re_callF ?_)
    repeat contradiction
    exact ⟨[], O, .refl _, sc, d, n, rfl, by omega, by decide, hw.wv, by omega, p⟩
theorem okx_length {k : Nat} (X : Txt K mg base a) {C : Addr} {R : D → D → Prop} (GX_need_weave : FnOk P w K mg base (L2.CX P w) (k + 75) a.f_need_weave a.d_need_weave ["scope", "weave"] (spRaise K (T a) C (sx2 R))) : FnOk P w K mg base (L2.CX P w) (k + 160) a.f_length a.d_length ["scope", "weave"] (spRaise K (T a) C (sx2 R)) := by
  have G_place_count := ok_pc (P := P) (w := w) (k := k) X 31
  refine FunT.okX (k := k + 159) X.F_length sc_length ?_ fun A outer s H E hr => ⟨_, (pss_cons (ps_expr (pe_callS (E := fun _ => E) GX_need_weave (hr.mono (by omega)) (by rfl) X.g_need_weave X.F_need_weave.kp X.b_need_weave (fun σ => passAt (takes_of rfl rfl rfl rfl) σ) (pa_cons (pv 0) (pa_cons (pv 1) pa_nil)))) (pss_one (ps_ret (pe_call (G_place_count) (hr.mono (by omega)) (by rfl) X.g_place_count X.F_place_count.kp X.b_place_count .nil pass0 (pa_cons (pv 1) pa_nil))))), ?_⟩
  · rintro vs H Q E ⟨F, O, Ξ, xs, PX, wd, ra, ⟨d, y, rfl, _⟩, _⟩
    exact ra.length
  · rintro vs Q ⟨F, O, Ξ, xs, PX, wd, ra, ⟨d, y, rfl, hR, p⟩, q⟩
    have he := env_start (N := ["scope", "weave"]) ra
    have run : RunXE K (T a) C (fun E => tCallS (spRaise K (T a) C (sx2 R)) (fun _ => E) (tCons (tVar 0) (tCons (tVar 1) tNil))) (startR 2 [.d d, .d y]) O PX := by
      refine rx_call ?_
      repeat contradiction
      exact ⟨_, _, rfl, hR, p⟩
    exact run F H Ξ _ wd he E _ q
end K0
end
section
set_option Elab.async false
set_option linter.all false
set_option maxRecDepth 100000
set_option maxHeartbeats 2000000
/-! The letters, as the program and as the law tell them. -/
namespace K0
open PySem PySem.Spec PyProof.Rows L2 Al
theorem bit_00 : bitOn 0 0 = false := by decide +kernel
theorem bit_01 : bitOn 0 1 = false := by decide +kernel
theorem bit_02 : bitOn 0 2 = false := by decide +kernel
theorem bit_10 : bitOn 1 0 = true := by decide +kernel
theorem bit_11 : bitOn 1 1 = false := by decide +kernel
theorem bit_12 : bitOn 1 2 = false := by decide +kernel
theorem bit_20 : bitOn 2 0 = false := by decide +kernel
theorem bit_21 : bitOn 2 1 = true := by decide +kernel
theorem bit_22 : bitOn 2 2 = false := by decide +kernel
theorem bit_30 : bitOn 3 0 = true := by decide +kernel
theorem bit_31 : bitOn 3 1 = true := by decide +kernel
theorem bit_32 : bitOn 3 2 = false := by decide +kernel
theorem bit_40 : bitOn 4 0 = false := by decide +kernel
theorem bit_41 : bitOn 4 1 = false := by decide +kernel
theorem bit_42 : bitOn 4 2 = true := by decide +kernel
theorem bit_50 : bitOn 5 0 = true := by decide +kernel
theorem bit_51 : bitOn 5 1 = false := by decide +kernel
theorem bit_52 : bitOn 5 2 = true := by decide +kernel
theorem bit_60 : bitOn 6 0 = false := by decide +kernel
theorem bit_61 : bitOn 6 1 = true := by decide +kernel
theorem bit_62 : bitOn 6 2 = true := by decide +kernel
theorem bit_70 : bitOn 7 0 = true := by decide +kernel
theorem bit_71 : bitOn 7 1 = true := by decide +kernel
theorem bit_72 : bitOn 7 2 = true := by decide +kernel
theorem row_eq : ∀ {l : List D}, l.length ≤ 3 → rowD l = (lawL l).map .tup
  | [], _ => rfl
  | [a], _ => by
    show [D.tup (pickB 0 [a]), .tup (pickB 1 [a])] = _
    simp [pickB, lawL, List.filter, bit_00, bit_01, bit_02, bit_10, bit_11, bit_12, bit_20, bit_21, bit_22, bit_30, bit_31, bit_32, bit_40, bit_41, bit_42, bit_50, bit_51, bit_52, bit_60, bit_61, bit_62, bit_70, bit_71, bit_72]
  | [a, b], _ => by
    show [D.tup (pickB 0 [a, b]), .tup (pickB 1 [a, b]), .tup (pickB 2 [a, b]), .tup (pickB 3 [a, b])] = _
    simp [pickB, lawL, List.filter, bit_00, bit_01, bit_02, bit_10, bit_11, bit_12, bit_20, bit_21, bit_22, bit_30, bit_31, bit_32, bit_40, bit_41, bit_42, bit_50, bit_51, bit_52, bit_60, bit_61, bit_62, bit_70, bit_71, bit_72]
  | [a, b, c], _ => by
    show [D.tup (pickB 0 [a, b, c]), .tup (pickB 1 [a, b, c]), .tup (pickB 2 [a, b, c]), .tup (pickB 3 [a, b, c]), .tup (pickB 4 [a, b, c]), .tup (pickB 5 [a, b, c]), .tup (pickB 6 [a, b, c]), .tup (pickB 7 [a, b, c])] = _
    simp [pickB, lawL, List.filter, bit_00, bit_01, bit_02, bit_10, bit_11, bit_12, bit_20, bit_21, bit_22, bit_30, bit_31, bit_32, bit_40, bit_41, bit_42, bit_50, bit_51, bit_52, bit_60, bit_61, bit_62, bit_70, bit_71, bit_72]
  | _ :: _ :: _ :: _ :: _, h => absurd h (by simp)
end K0
end
section
set_option Elab.async false
set_option linter.all false
set_option maxRecDepth 100000
set_option maxHeartbeats 4000000
namespace K0
open PySem PySem.Spec PyProof.Rows L2 Al RT
variable {P : Program} {w : World} {K : PySem.W.Frag} {mg : Str → Option Value} {base : Heap} {a : Ad}
local macro_rules
  | `(tactic| contradiction) => `(tactic| first
    | with_reducible refine rs_seq ?_ | with_reducible refine rs_if ?_ | with_reducible refine rs_ret ?_ | with_reducible refine rt_and ?_ | with_reducible refine rt_or ?_ | with_reducible refine rt_not ?_ | with_reducible refine rt_test ?_ | with_reducible refine rt_B ?_ | with_reducible refine rs_asg ?_ | with_reducible refine rs_par ?_
    | with_reducible refine re_cb ?_ | with_reducible refine re_op ?_ | with_reducible refine re_if ?_ | with_reducible refine re_un ?_ | with_reducible refine ra_cons ?_ | with_reducible refine ra_nil ?_ | with_reducible refine re_int ?_ | with_reducible refine re_str ?_ | with_reducible refine re_bl ?_ | with_reducible refine re_non ?_ | with_reducible refine re_ty ?_ 
    | refine re_var rfl (fun z => by cases z) ?_ | with_reducible refine rr_b ?_ | with_reducible refine rr_i ?_ | with_reducible refine ru_i ?_
    | with_reducible refine rc_isi rfl (by first | exact (show kitB _ _ = some true by decide +kernel) | exact (show kitB _ _ = some false by decide +kernel)) ?_
    | with_reducible refine rc_len rfl ?_ | with_reducible refine rr_ix rfl atI_0 ?_ | with_reducible refine rr_ix rfl atI_1 ?_
    | with_reducible refine rr_eqF rfl ?_ | with_reducible refine rr_neF rfl ?_ | with_reducible refine rr_addI ?_ | with_reducible refine rc_abs ?_ | with_reducible refine rc_int ?_ | with_reducible refine rc_min ?_
    | refine ⟨_, rfl, ?_⟩ | rw [if_pos rfl] | rw [if_neg Bool.false_ne_true] | with_reducible refine rs_next ?_ | (with_reducible refine ift ?_ ?_; focus (simp; done)) | (with_reducible refine iff' ?_ ?_; focus (simp; done)) | dsimp only)
/-! ### a body that raises, step by step -/
theorem raise_drop {Tb : List Addr} {te : TE} {u : TS} {ρ : Rho} {O Ξ : Own} {F H : Hp} {σ : L2.St} {D : Ends} (h : RunE K Tb te ρ O fun _ O' => O' = O) (wd : Wd K Tb F (O ++ Ξ) H) (e : Env K F ρ σ) (k : ∀ F' H', Ex F F' → Wd K Tb F' (O ++ Ξ) H' → u D σ H') : tSeq (tDrop te) u D σ H :=
  h F H Ξ σ wd e _ fun v s F' O' H' e1 w1 r1 hO => by subst hO; exact k F' H' e1 w1
theorem raise_if {Tb : List Addr} {c : TT} {t u v : TS} {ρ : Rho} {O Ξ : Own} {F H : Hp} {σ : L2.St} {D : Ends} (h : RunT K Tb c ρ O fun b O' => b = true ∧ O' = O) (wd : Wd K Tb F (O ++ Ξ) H) (e : Env K F ρ σ) (k : ∀ F' H' D', Ex F F' → Wd K Tb F' (O ++ Ξ) H' → t D' σ H') : tSeq (tIfS c t u) v D σ H :=
  h F H Ξ σ wd e _ fun b F' O' H' e1 w1 ⟨hb, hO⟩ => by subst hb hO; exact k F' H' _ e1 w1
/-! ### letters -/
theorem letter_tree {sc : List Str} (hsc : ∀ u ∈ sc, nameS u = true) {x : D} (h : letterD sc x = true) : Al.plain 1 x = true ∧ stD x = true := by
  cases x with
  | tup l =>
    have hs := letter_strs h
    rw [letter_tup, Bool.and_eq_true, Bool.and_eq_true] at h
    constructor
    · rw [Al.plain]
      refine plainL_of fun y hy => ?_
      obtain ⟨u, rfl, hu⟩ := inSc_str (List.all_eq_true.mp h.1.2 y hy)
      exact name_ok (hsc u hu)
    · rw [stD]
      exact stL_all fun y hy => by obtain ⟨u, rfl⟩ := hs y hy; rw [stD]
  | _ => cases h
theorem row_letter {sc : List Str} (hs : scopeD (.tup (txts sc)) = true) : ∀ x ∈ rowD (txts sc), letterD sc x = true := fun x hx => by
  obtain ⟨h3, _⟩ := scope_txts hs
  rw [row_eq (by simpa [txts] using h3)] at hx
  obtain ⟨l, hl, rfl⟩ := List.mem_map.mp hx
  exact law_letter hs hl
theorem row_len {sc : List Str} (hs : scopeD (.tup (txts sc)) = true) : (rowD (txts sc)).length ≤ 8 := by
  obtain ⟨h3, _⟩ := scope_txts hs
  unfold rowD
  rw [List.length_map, List.length_range]
  have : 2 ^ (txts sc).length ≤ 2 ^ 3 := Nat.pow_le_pow_right (by decide) (by simpa [txts] using h3)
  simpa using this
theorem ok_lin {k : Nat} (X : Txt K mg base a) (G_need_weave : FnOk P w K mg base CX0 (k + 75) a.f_need_weave a.d_need_weave ["scope", "weave"] (spOf K (T a) spNW)) : FnOk P w K mg base CX0 (k + 160) a.f_letters_in a.d_letters_in ["scope", "weave"] (spOf K (T a) spLIn) := by
  have G_letters_below := ok_lb (P := P) (w := w) (k := k) X 31
  have G_letter_row := ok_row (P := P) (w := w) (k := k) X
  refine FunT.ok (k := k + 159) X.F_letters_in sc_letters_in ?_ fun A outer s H E hr => ⟨_, (pss_cons (ps_expr (pe_call (G_need_weave) (hr.mono (by omega)) (by rfl) X.g_need_weave X.F_need_weave.kp X.b_need_weave .nil pass0 (pa_cons (pv 0) (pa_cons (pv 1) pa_nil)))) (pss_cons (ps_set (i := 2) sc_letters_in.nd rfl (by first | exact .inl rfl | exact .inr rfl) (pe_call (G_letters_below) (hr.mono (by omega)) (by rfl) X.g_letters_below X.F_letters_below.kp X.b_letters_below .nil pass0 (pa_cons (pv 1) pa_nil))) (pss_one (ps_ret (pe_callTy (call_tupleK (K := K) rfl) (by rfl) X.m_tuple (by decide +kernel) (pa_cons (pe_lc (own := [("letter", 3)]) rfl sc_letters_in.nd (Al.pi_seqK (K := K) rfl (pe_call (G_letter_row) (hr.mono (by omega)) (by rfl) X.g_letter_row X.F_letter_row.kp X.b_letter_row .nil pass0 (pa_cons (pv 0) pa_nil))) (blkOk_by (own := [("letter", 3)]) (N := ["scope", "weave", "found", "letter"]) (sc := defScope s_letters_in) (by decide +kernel)) (fun _ _ _ _ _ => (pg_name (i := 3) sc_letters_in.nd rfl (by first | exact .inl rfl | exact .inr rfl))) (fun _ _ _ _ _ => (pts_one (pt_cmpR (op_inDK (K := K) rfl (Al.room_u65 hr)) (pv 3) (pv 2) (by rfl)))) (fun _ _ _ _ _ => (pv 3))) pa_nil)))))), ?_⟩
  · rintro xs O Pv ⟨sc, d, n, rfl, _⟩
    rfl
  · rintro xs O Pv ⟨sc, d, n, rfl, hw, p⟩
    have := hw.n30
    have := hw.cn
    obtain ⟨h3, hsc⟩ := scope_txts hw.hs
    obtain ⟨hlet, hll⟩ := let_letters n d hw.wv
    repeat contradiction
    refine rs_drop (re_callF ?_)
    repeat contradiction
    refine ⟨[], O, .refl _, sc, d, n, rfl, hw, ?_⟩
    repeat contradiction
    refine re_callF ?_
    repeat contradiction
    refine ⟨[], O, .refl _, sc, d, n, rfl, by omega, by decide, hw.wv, by omega, ?_⟩
    repeat contradiction
    refine re_lc (gin_name (by decide)) (ri_seq (re_callF ?_))
    repeat contradiction
    refine ⟨[], O, .refl _, txts sc, rfl, by simpa [txts] using h3, ?_⟩
    have hrl := row_len hw.hs
    refine ⟨_, _, rfl, rfl, fun i acc O' => O' = O ∧ acc = ((rowD (txts sc)).take i).filter (fun x => inP x (letW n d)) ∧ acc.length ≤ i, ⟨rfl, rfl, Nat.le_refl _⟩, small1000 (by omega), ?_, ?_⟩
    · rintro acc O' ⟨rfl, rfl, _⟩
      rw [List.take_length]
      repeat contradiction
      exact rc_tuple rfl p
    · rintro i dd acc O' ⟨rfl, rfl, hal⟩ hi
      refine rg_name ?_
      refine rt_test ?_
      repeat contradiction
      refine rr_inP (n := 1) (m := 1) (letter_tree hsc (row_letter hw.hs dd (List.mem_of_getElem? hi))).1 (pl_all fun x hx => (letter_tree hsc (hlet x hx)).1) (by decide) (by decide) ?_
      refine ⟨_, rfl, ?_⟩
      have et : ((rowD (txts sc)).take (i + 1)).filter (fun x => inP x (letW n d)) = ((rowD (txts sc)).take i).filter (fun x => inP x (letW n d)) ++ if inP dd (letW n d) = true then [dd] else [] := by
        rw [List.take_add_one, hi, List.filter_append]
        congr 1
        simp only [Option.toList_some, List.filter_cons, List.filter_nil]
      cases hb : inP dd (letW n d) with
      | true =>
        refine ift rfl ?_
        rw [hb, if_pos rfl] at et
        repeat contradiction
        exact ⟨hal, rfl, et.symm, by rw [List.length_append]; exact Nat.succ_le_succ hal⟩
      | false =>
        refine iff' rfl ?_
        rw [hb, if_neg Bool.false_ne_true, List.append_nil] at et
        exact ⟨rfl, et.symm, by omega⟩
theorem okx_lin {k : Nat} (X : Txt K mg base a) {C : Addr} {R : D → D → Prop} (GX_need_weave : FnOk P w K mg base (L2.CX P w) (k + 75) a.f_need_weave a.d_need_weave ["scope", "weave"] (spRaise K (T a) C (sx2 R))) : FnOk P w K mg base (L2.CX P w) (k + 160) a.f_letters_in a.d_letters_in ["scope", "weave"] (spRaise K (T a) C (sx2 R)) := by
  have G_letters_below := ok_lb (P := P) (w := w) (k := k) X 31
  have G_letter_row := ok_row (P := P) (w := w) (k := k) X
  refine FunT.okX (k := k + 159) X.F_letters_in sc_letters_in ?_ fun A outer s H E hr => ⟨_, (pss_cons (ps_expr (pe_callS (E := fun _ => E) GX_need_weave (hr.mono (by omega)) (by rfl) X.g_need_weave X.F_need_weave.kp X.b_need_weave (fun σ => passAt (takes_of rfl rfl rfl rfl) σ) (pa_cons (pv 0) (pa_cons (pv 1) pa_nil)))) (pss_cons (ps_set (i := 2) sc_letters_in.nd rfl (by first | exact .inl rfl | exact .inr rfl) (pe_call (G_letters_below) (hr.mono (by omega)) (by rfl) X.g_letters_below X.F_letters_below.kp X.b_letters_below .nil pass0 (pa_cons (pv 1) pa_nil))) (pss_one (ps_ret (pe_callTy (call_tupleK (K := K) rfl) (by rfl) X.m_tuple (by decide +kernel) (pa_cons (pe_lc (own := [("letter", 3)]) rfl sc_letters_in.nd (Al.pi_seqK (K := K) rfl (pe_call (G_letter_row) (hr.mono (by omega)) (by rfl) X.g_letter_row X.F_letter_row.kp X.b_letter_row .nil pass0 (pa_cons (pv 0) pa_nil))) (blkOk_by (own := [("letter", 3)]) (N := ["scope", "weave", "found", "letter"]) (sc := defScope s_letters_in) (by decide +kernel)) (fun _ _ _ _ _ => (pg_name (i := 3) sc_letters_in.nd rfl (by first | exact .inl rfl | exact .inr rfl))) (fun _ _ _ _ _ => (pts_one (pt_cmpR (op_inDK (K := K) rfl (Al.room_u65 hr)) (pv 3) (pv 2) (by rfl)))) (fun _ _ _ _ _ => (pv 3))) pa_nil)))))), ?_⟩
  · rintro vs H Q E ⟨F, O, Ξ, xs, PX, wd, ra, ⟨d, y, rfl, _⟩, _⟩
    exact ra.length
  · rintro vs Q ⟨F, O, Ξ, xs, PX, wd, ra, ⟨d, y, rfl, hR, p⟩, q⟩
    have he := env_start (N := ["scope", "weave", "found", "letter"]) ra
    have run : RunXE K (T a) C (fun E => tCallS (spRaise K (T a) C (sx2 R)) (fun _ => E) (tCons (tVar 0) (tCons (tVar 1) tNil))) (startR 4 [.d d, .d y]) O PX := by
      refine rx_call ?_
      repeat contradiction
      exact ⟨_, _, rfl, hR, p⟩
    exact run F H Ξ _ wd he E _ q
/-! ### spelled -/
theorem pl_some {sc : List Str} {n : Nat} {d : D} (h : wvD sc n d = true) {l : List D} (e : tdW n d = some l) : plW n d = some l.length := by rw [pl_td n d h, e]; rfl
theorem oD_raw (c : Option Nat) : ∀ u, oD c ≠ .raw u := fun u z => by cases c <;> cases z
theorem ok_spelled {k : Nat} (X : Txt K mg base a) (E_NotFinite : ClsF K a.C_NotFinite a.C_OrderError) (G_need_weave : FnOk P w K mg base CX0 (k + 75) a.f_need_weave a.d_need_weave ["scope", "weave"] (spOf K (T a) spNW)) : FnOk P w K mg base CX0 (k + 160) a.f_spelled a.d_spelled ["scope", "weave"] (spOf K (T a) spSpl) := by
  have G_letters_below := ok_lb (P := P) (w := w) (k := k) X 31
  have G_place_count := ok_pc (P := P) (w := w) (k := k) X 31
  refine FunT.ok (k := k + 159) X.F_spelled sc_spelled ?_ fun A outer s H E hr => ⟨_, (pss_cons (ps_expr (pe_call (G_need_weave) (hr.mono (by omega)) (by rfl) X.g_need_weave X.F_need_weave.kp X.b_need_weave .nil pass0 (pa_cons (pv 0) (pa_cons (pv 1) pa_nil)))) (pss_cons (ps_if (pt_cmpR op_isN (pe_call (G_place_count) (hr.mono (by omega)) (by rfl) X.g_place_count X.F_place_count.kp X.b_place_count .nil pass0 (pa_cons (pv 1) pa_nil)) pe_non (nomark _)) (pss_one (ps_raise rfl takes0 (pmk_own PySem.F.excBase_ValueError E_NotFinite.xP X.g_NotFinite E_NotFinite.kP (raises_own E_NotFinite.bP E_NotFinite.tP) rfl))) pss_nil) (pss_one (ps_ret (pe_callTy (call_tupleK (K := K) rfl) (by rfl) X.m_tuple (by decide +kernel) (pa_cons (pe_call (G_letters_below) (hr.mono (by omega)) (by rfl) X.g_letters_below X.F_letters_below.kp X.b_letters_below .nil pass0 (pa_cons (pv 1) pa_nil)) pa_nil)))))), ?_⟩
  · rintro xs O Pv ⟨sc, d, n, l, rfl, _⟩
    rfl
  · rintro xs O Pv ⟨sc, d, n, l, rfl, hw, htd, p⟩
    have := hw.n30
    have := hw.cn
    repeat contradiction
    refine rs_drop (re_callF ?_)
    repeat contradiction
    refine ⟨[], O, .refl _, sc, d, n, rfl, hw, ?_⟩
    repeat contradiction
    refine re_callF ?_
    repeat contradiction
    refine ⟨[], O, .refl _, sc, d, n, rfl, by omega, by decide, hw.wv, by omega, ?_⟩
    repeat contradiction
    rw [pl_some hw.wv htd]
    refine rr_isNon (oD_raw _) ?_
    refine ⟨_, rfl, ?_⟩
    refine iff' rfl ?_
    refine rs_next (rs_ret ?_)
    repeat contradiction
    refine re_callF ?_
    repeat contradiction
    refine ⟨[], O, .refl _, sc, d, n, rfl, by omega, by decide, hw.wv, by omega, ?_⟩
    repeat contradiction
    rw [td_let n d hw.wv l htd]
    exact rc_tuple rfl p
theorem okx_spelled {k : Nat} (X : Txt K mg base a) (E_NotFinite : ClsF K a.C_NotFinite a.C_OrderError) {C : Addr} {R : D → D → Prop} (GX_need_weave : FnOk P w K mg base (L2.CX P w) (k + 75) a.f_need_weave a.d_need_weave ["scope", "weave"] (spRaise K (T a) C (sx2 R))) : FnOk P w K mg base (L2.CX P w) (k + 160) a.f_spelled a.d_spelled ["scope", "weave"] (spRaise K (T a) C (sx2 R)) := by
  have G_letters_below := ok_lb (P := P) (w := w) (k := k) X 31
  have G_place_count := ok_pc (P := P) (w := w) (k := k) X 31
  refine FunT.okX (k := k + 159) X.F_spelled sc_spelled ?_ fun A outer s H E hr => ⟨_, (pss_cons (ps_expr (pe_callS (E := fun _ => E) GX_need_weave (hr.mono (by omega)) (by rfl) X.g_need_weave X.F_need_weave.kp X.b_need_weave (fun σ => passAt (takes_of rfl rfl rfl rfl) σ) (pa_cons (pv 0) (pa_cons (pv 1) pa_nil)))) (pss_cons (ps_if (pt_cmpR op_isN (pe_call (G_place_count) (hr.mono (by omega)) (by rfl) X.g_place_count X.F_place_count.kp X.b_place_count .nil pass0 (pa_cons (pv 1) pa_nil)) pe_non (nomark _)) (pss_one (ps_raise rfl (takes_of rfl rfl rfl rfl) (pmk_own PySem.F.excBase_ValueError E_NotFinite.xP X.g_NotFinite E_NotFinite.kP (raises_own E_NotFinite.bP E_NotFinite.tP) rfl))) pss_nil) (pss_one (ps_ret (pe_callTy (call_tupleK (K := K) rfl) (by rfl) X.m_tuple (by decide +kernel) (pa_cons (pe_call (G_letters_below) (hr.mono (by omega)) (by rfl) X.g_letters_below X.F_letters_below.kp X.b_letters_below .nil pass0 (pa_cons (pv 1) pa_nil)) pa_nil)))))), ?_⟩
  · rintro vs H Q E ⟨F, O, Ξ, xs, PX, wd, ra, ⟨d, y, rfl, _⟩, _⟩
    exact ra.length
  · rintro vs Q ⟨F, O, Ξ, xs, PX, wd, ra, ⟨d, y, rfl, hR, p⟩, q⟩
    have he := env_start (N := ["scope", "weave"]) ra
    have run : RunXE K (T a) C (fun E => tCallS (spRaise K (T a) C (sx2 R)) (fun _ => E) (tCons (tVar 0) (tCons (tVar 1) tNil))) (startR 2 [.d d, .d y]) O PX := by
      refine rx_call ?_
      repeat contradiction
      exact ⟨_, _, rfl, hR, p⟩
    exact run F H Ξ _ wd he E _ q
def sxNF : List Sl → Own → (Own → Prop) → Prop := fun xs O PX => ∃ sc d n, xs = [.d (.tup (txts sc)), .d d] ∧ WOk sc n d ∧ tdW n d = none ∧ PX O
theorem okx_spelledN {k : Nat} (X : Txt K mg base a) (E_NotFinite : ClsF K a.C_NotFinite a.C_OrderError) (G_need_weave : FnOk P w K mg base CX0 (k + 75) a.f_need_weave a.d_need_weave ["scope", "weave"] (spOf K (T a) spNW)) : FnOk P w K mg base (L2.CX P w) (k + 160) a.f_spelled a.d_spelled ["scope", "weave"] (spRaise K (T a) a.C_NotFinite sxNF) := by
  have G_letters_below := ok_lb (P := P) (w := w) (k := k) X 31
  have G_place_count := ok_pc (P := P) (w := w) (k := k) X 31
  refine FunT.okX (k := k + 159) X.F_spelled sc_spelled ?_ fun A outer s H E hr => ⟨_, (pss_cons (ps_expr (pe_call (G_need_weave) (hr.mono (by omega)) (by rfl) X.g_need_weave X.F_need_weave.kp X.b_need_weave .nil pass0 (pa_cons (pv 0) (pa_cons (pv 1) pa_nil)))) (pss_cons (ps_if (pt_cmpR op_isN (pe_call (G_place_count) (hr.mono (by omega)) (by rfl) X.g_place_count X.F_place_count.kp X.b_place_count .nil pass0 (pa_cons (pv 1) pa_nil)) pe_non (nomark _)) (pss_one (ps_raise rfl (takes_of rfl rfl rfl rfl) (pmk_own PySem.F.excBase_ValueError E_NotFinite.xP X.g_NotFinite E_NotFinite.kP (raises_own E_NotFinite.bP E_NotFinite.tP) rfl))) pss_nil) (pss_one (ps_ret (pe_callTy (call_tupleK (K := K) rfl) (by rfl) X.m_tuple (by decide +kernel) (pa_cons (pe_call (G_letters_below) (hr.mono (by omega)) (by rfl) X.g_letters_below X.F_letters_below.kp X.b_letters_below .nil pass0 (pa_cons (pv 1) pa_nil)) pa_nil)))))), ?_⟩
  · rintro vs H Q E ⟨F, O, Ξ, xs, PX, wd, ra, ⟨sc, d, n, rfl, _⟩, _⟩
    exact ra.length
  · rintro vs Q ⟨F, O, Ξ, xs, PX, wd, ra, ⟨sc, d, n, rfl, hw, htd, p⟩, q⟩
    have he := env_start (N := ["scope", "weave"]) ra
    have := hw.n30
    have := hw.cn
    refine raise_drop (ρ := startR 2 [.d (.tup (txts sc)), .d d]) ?_ wd he fun F1 H1 e1 w1 => ?_
    · refine re_callF ?_
      repeat contradiction
      exact ⟨[], O, .refl _, sc, d, n, rfl, hw, rfl⟩
    · refine raise_if (ρ := startR 2 [.d (.tup (txts sc)), .d d]) ?_ w1 (he.mono e1) fun F2 H2 D' e2 w2 => ?_
      · refine rt_test ?_
        repeat contradiction
        refine re_callF ?_
        repeat contradiction
        refine ⟨[], O, .refl _, sc, d, n, rfl, by omega, by decide, hw.wv, by omega, ?_⟩
        repeat contradiction
        rw [pl_td n d hw.wv, htd]
        refine rr_isNon (oD_raw none) ?_
        exact ⟨_, rfl, rfl, rfl⟩
      · exact q F2 O H2 (e1.trans e2) w2 p
/-! ### written -/
def rowOk (sc : List Str) : D → Bool
  | .tup l => decide (l.length ≤ 20) && l.all (letterD sc)
  | _ => false
def spWr : Prm := fun xs O Pv => ∃ sc l, xs = [.d (.tup (txts sc)), .d (.tup l)] ∧ scopeD (.tup (txts sc)) = true ∧ l.length ≤ 20 ∧ (∀ x ∈ l, letterD sc x = true) ∧ Pv (.d (lineD l)) O
theorem letter_kinds {sc : List Str} {x : D} (h : letterD sc x = true) : kinds x := by
  cases x with
  | tup l =>
    refine ⟨⟨_, rfl⟩, fun m e y hy => ?_⟩
    injection e with e
    subst e
    obtain ⟨u, rfl⟩ := letter_strs h y hy
    exact ⟨_, rfl⟩
  | _ => cases h
theorem ok_written {k : Nat} (X : Txt K mg base a) (hk : ∀ F, Rp K F (.tup (txts kept)) (.ref a.o_KEPT)) (E_BadScope : ClsF K a.C_BadScope a.C_OrderError) (E_BadLetters : ClsF K a.C_BadLetters a.C_OrderError) : FnOk P w K mg base CX0 (k + 20) a.f_written a.d_written ["scope", "row"] (spOf K (T a) spWr) := by
  have G_need_scope := ok_need (P := P) (w := w) (k := k) X hk E_BadScope
  have G_is_letter := ok_letter (P := P) (w := w) (k := k) X
  have G_in_row := ok_inrow (P := P) (w := w) (k := k) X
  refine FunT.ok (k := k + 15 + 4) X.F_written sc_written ?_ fun A outer s H E hr => ⟨_, (pss_cons (ps_expr (pe_call (G_need_scope) (hr.mono (by omega)) (by rfl) X.g_need_scope X.F_need_scope.kp X.b_need_scope .nil pass0 (pa_cons (pv 0) pa_nil))) (pss_cons (ps_if (PW.pt (pw_or (pt_not (pt_val (pe_callB (call_isiK2 (K := K) rfl) (by rfl) X.m_isinstance (by decide +kernel) (pa_cons (pv 1) (pa_cons (pe_ty (n := "tuple") (by rfl) X.m_tuple (by decide +kernel)) pa_nil))))) (pw_or (pt_cmpR op_gt (pe_callB (call_lenK (K := K) rfl) (by rfl) X.m_len (by decide +kernel) (pa_cons (pv 1) pa_nil)) pe_int (nomark _)) (pw_or1 (pt_not (pt_val (Gx.pe_allG (own := ["letter"]) (cp := [("scope", 0)]) hr rfl (by rfl) X.m_all X.B_written rfl (Al.gok_by (N := ["scope", "row", "letter"]) (sc := defScope s_written) (by decide +kernel)) (Al.pi_seqK (K := K) rfl (pv 1)) (fun _ _ _ _ _ _ _ _ hg => (pg_name (i := 0) (show (["letter", "scope"] : List Str).Nodup by decide +kernel) rfl (.inl rfl))) (fun _ _ _ _ _ _ _ _ hg => pts_nil) (fun _ _ _ _ _ _ _ _ hg => (pe_call (G_is_letter) (hg.mono (by omega)) (by rfl) X.g_is_letter X.F_is_letter.kp X.b_is_letter .nil pass0 (pa_cons (pv 1) (pa_cons (pv 0) pa_nil))))))))))) (pss_one (ps_raise rfl takes0 (pmk_own PySem.F.excBase_ValueError E_BadLetters.xP X.g_BadLetters E_BadLetters.kP (raises_own E_BadLetters.bP E_BadLetters.tP) rfl))) pss_nil) (pss_one (ps_ret (pe_call (G_in_row) (hr.mono (by omega)) (by rfl) X.g_in_row X.F_in_row.kp X.b_in_row .nil pass0 (pa_cons (pe_lc (own := [("letter", 2)]) rfl sc_written.nd (Al.pi_seqK (K := K) rfl (pv 1)) (blkOk_by (own := [("letter", 2)]) (N := ["scope", "row", "letter"]) (sc := defScope s_written) (by decide +kernel)) (fun _ _ _ _ _ => (pg_name (i := 2) sc_written.nd rfl (by first | exact .inl rfl | exact .inr rfl))) (fun _ _ _ _ _ => pts_nil) (fun _ _ _ _ _ => (pe_tup (pa_cons pe_str (pa_cons (pv 2) pa_nil))))) pa_nil)))))), ?_⟩
  · rintro xs O Pv ⟨sc, l, rfl, _⟩
    rfl
  · rintro xs O Pv ⟨sc, l, rfl, hs, hl, hlet, p⟩
    obtain ⟨h3, hsc⟩ := scope_txts hs
    repeat contradiction
    refine rs_drop (re_callF ?_)
    repeat contradiction
    refine ⟨[], O, .refl _, _, rfl, smallL_txts hs, hs, ?_⟩
    repeat contradiction
    refine iff' (decide_eq_false (by omega)) ?_
    repeat contradiction
    refine re_allG (by simp [T, tabs]) (gin_name (by decide)) (ri_seq ?_)
    repeat contradiction
    refine ⟨_, _, rfl, rfl, fun i O' => O' = O, rfl, ?_, ?_⟩
    · rintro O' rfl
      refine ⟨true, rfl, iff' rfl ?_⟩
      refine rs_next (rs_ret (re_callF ?_))
      repeat contradiction
      refine re_lc (gin_name (by decide)) (ri_seq ?_)
      repeat contradiction
      refine ⟨_, _, rfl, rfl, fun i acc O2 => O2 = O' ∧ acc = (l.take i).map ltr ∧ acc.length ≤ i, ⟨rfl, rfl, Nat.le_refl _⟩, small1000 (by omega), ?_, ?_⟩
      · rintro acc O2 ⟨rfl, rfl, _⟩
        rw [List.take_length]
        repeat contradiction
        exact ⟨[], O2, .refl _, l, rfl, by omega, p⟩
      · rintro i dd acc O2 ⟨rfl, rfl, hal⟩ hi
        refine rg_name (rt_yes ?_)
        refine re_tupD ?_
        repeat contradiction
        refine ⟨rfl, ?_⟩
        refine ⟨_, rfl, hal, rfl, ?_, by rw [List.length_append]; exact Nat.succ_le_succ hal⟩
        rw [List.take_add_one, hi]
        simp [ltr]
    · rintro i dd O' rfl hi
      have hd := hlet dd (List.mem_of_getElem? hi)
      refine rg_name (rt_yes (re_callF ?_))
      repeat contradiction
      refine ⟨[], O', .refl _, sc, dd, rfl, h3, hsc, letter_kinds hd, ?_⟩
      rw [hd]
      exact ⟨true, rfl, ift rfl rfl⟩
theorem okx_written1 {k : Nat} (X : Txt K mg base a) (hk : ∀ F, Rp K F (.tup (txts kept)) (.ref a.o_KEPT)) (E_BadScope : ClsF K a.C_BadScope a.C_OrderError) (E_BadLetters : ClsF K a.C_BadLetters a.C_OrderError) : FnOk P w K mg base (L2.CX P w) (k + 20) a.f_written a.d_written ["scope", "row"] (spRaise K (T a) a.C_BadScope (sx2 R1)) := by
  have GX_need_scope := okx_need (P := P) (w := w) (k := k) X hk E_BadScope
  have G_is_letter := ok_letter (P := P) (w := w) (k := k) X
  have G_in_row := ok_inrow (P := P) (w := w) (k := k) X
  refine FunT.okX (k := k + 15 + 4) X.F_written sc_written ?_ fun A outer s H E hr => ⟨_, (pss_cons (ps_expr (pe_callS (E := fun _ => E) GX_need_scope (hr.mono (by omega)) (by rfl) X.g_need_scope X.F_need_scope.kp X.b_need_scope (fun σ => passAt (takes_of rfl rfl rfl rfl) σ) (pa_cons (pv 0) pa_nil))) (pss_cons (ps_if (PW.pt (pw_or (pt_not (pt_val (pe_callB (call_isiK2 (K := K) rfl) (by rfl) X.m_isinstance (by decide +kernel) (pa_cons (pv 1) (pa_cons (pe_ty (n := "tuple") (by rfl) X.m_tuple (by decide +kernel)) pa_nil))))) (pw_or (pt_cmpR op_gt (pe_callB (call_lenK (K := K) rfl) (by rfl) X.m_len (by decide +kernel) (pa_cons (pv 1) pa_nil)) pe_int (nomark _)) (pw_or1 (pt_not (pt_val (Gx.pe_allG (own := ["letter"]) (cp := [("scope", 0)]) hr rfl (by rfl) X.m_all X.B_written rfl (Al.gok_by (N := ["scope", "row", "letter"]) (sc := defScope s_written) (by decide +kernel)) (Al.pi_seqK (K := K) rfl (pv 1)) (fun _ _ _ _ _ _ _ _ hg => (pg_name (i := 0) (show (["letter", "scope"] : List Str).Nodup by decide +kernel) rfl (.inl rfl))) (fun _ _ _ _ _ _ _ _ hg => pts_nil) (fun _ _ _ _ _ _ _ _ hg => (pe_call (G_is_letter) (hg.mono (by omega)) (by rfl) X.g_is_letter X.F_is_letter.kp X.b_is_letter .nil pass0 (pa_cons (pv 1) (pa_cons (pv 0) pa_nil))))))))))) (pss_one (ps_raise rfl (takes_of rfl rfl rfl rfl) (pmk_own PySem.F.excBase_ValueError E_BadLetters.xP X.g_BadLetters E_BadLetters.kP (raises_own E_BadLetters.bP E_BadLetters.tP) rfl))) pss_nil) (pss_one (ps_ret (pe_call (G_in_row) (hr.mono (by omega)) (by rfl) X.g_in_row X.F_in_row.kp X.b_in_row .nil pass0 (pa_cons (pe_lc (own := [("letter", 2)]) rfl sc_written.nd (Al.pi_seqK (K := K) rfl (pv 1)) (blkOk_by (own := [("letter", 2)]) (N := ["scope", "row", "letter"]) (sc := defScope s_written) (by decide +kernel)) (fun _ _ _ _ _ => (pg_name (i := 2) sc_written.nd rfl (by first | exact .inl rfl | exact .inr rfl))) (fun _ _ _ _ _ => pts_nil) (fun _ _ _ _ _ => (pe_tup (pa_cons pe_str (pa_cons (pv 2) pa_nil))))) pa_nil)))))), ?_⟩
  · rintro vs H Q E ⟨F, O, Ξ, xs, PX, wd, ra, ⟨d, y, rfl, _⟩, _⟩
    exact ra.length
  · rintro vs Q ⟨F, O, Ξ, xs, PX, wd, ra, ⟨d, y, rfl, ⟨r1, r2⟩, p⟩, q⟩
    have he := env_start (N := ["scope", "row", "letter"]) ra
    have run : RunXE K (T a) a.C_BadScope (fun E => tCallS (spRaise K (T a) a.C_BadScope sxNeed) (fun _ => E) (tCons (tVar 0) tNil)) (startR 3 [.d d, .d y]) O PX := by
      refine rx_call ?_
      repeat contradiction
      exact ⟨r1, r2, p⟩
    exact run F H Ξ _ wd he E _ q
/-- a scope, no row of letters of it -/
def R3 (d y : D) : Prop := ∃ sc, d = .tup (txts sc) ∧ scopeD (.tup (txts sc)) = true ∧ cl 3 y = true ∧ rowOk sc y = false
theorem okx_written2 {k : Nat} (X : Txt K mg base a) (hk : ∀ F, Rp K F (.tup (txts kept)) (.ref a.o_KEPT)) (E_BadScope : ClsF K a.C_BadScope a.C_OrderError) (E_BadLetters : ClsF K a.C_BadLetters a.C_OrderError) : FnOk P w K mg base (L2.CX P w) (k + 20) a.f_written a.d_written ["scope", "row"] (spRaise K (T a) a.C_BadLetters (sx2 R3)) := by
  have G_need_scope := ok_need (P := P) (w := w) (k := k) X hk E_BadScope
  have G_is_letter := ok_letter (P := P) (w := w) (k := k) X
  have G_in_row := ok_inrow (P := P) (w := w) (k := k) X
  refine FunT.okX (k := k + 15 + 4) X.F_written sc_written ?_ fun A outer s H E hr => ⟨_, (pss_cons (ps_expr (pe_call (G_need_scope) (hr.mono (by omega)) (by rfl) X.g_need_scope X.F_need_scope.kp X.b_need_scope .nil pass0 (pa_cons (pv 0) pa_nil))) (pss_cons (ps_if (PW.pt (pw_or (pt_not (pt_val (pe_callB (call_isiK2 (K := K) rfl) (by rfl) X.m_isinstance (by decide +kernel) (pa_cons (pv 1) (pa_cons (pe_ty (n := "tuple") (by rfl) X.m_tuple (by decide +kernel)) pa_nil))))) (pw_or (pt_cmpR op_gt (pe_callB (call_lenK (K := K) rfl) (by rfl) X.m_len (by decide +kernel) (pa_cons (pv 1) pa_nil)) pe_int (nomark _)) (pw_or1 (pt_not (pt_val (Gx.pe_allG (own := ["letter"]) (cp := [("scope", 0)]) hr rfl (by rfl) X.m_all X.B_written rfl (Al.gok_by (N := ["scope", "row", "letter"]) (sc := defScope s_written) (by decide +kernel)) (Al.pi_seqK (K := K) rfl (pv 1)) (fun _ _ _ _ _ _ _ _ hg => (pg_name (i := 0) (show (["letter", "scope"] : List Str).Nodup by decide +kernel) rfl (.inl rfl))) (fun _ _ _ _ _ _ _ _ hg => pts_nil) (fun _ _ _ _ _ _ _ _ hg => (pe_call (G_is_letter) (hg.mono (by omega)) (by rfl) X.g_is_letter X.F_is_letter.kp X.b_is_letter .nil pass0 (pa_cons (pv 1) (pa_cons (pv 0) pa_nil))))))))))) (pss_one (ps_raise rfl (takes_of rfl rfl rfl rfl) (pmk_own PySem.F.excBase_ValueError E_BadLetters.xP X.g_BadLetters E_BadLetters.kP (raises_own E_BadLetters.bP E_BadLetters.tP) rfl))) pss_nil) (pss_one (ps_ret (pe_call (G_in_row) (hr.mono (by omega)) (by rfl) X.g_in_row X.F_in_row.kp X.b_in_row .nil pass0 (pa_cons (pe_lc (own := [("letter", 2)]) rfl sc_written.nd (Al.pi_seqK (K := K) rfl (pv 1)) (blkOk_by (own := [("letter", 2)]) (N := ["scope", "row", "letter"]) (sc := defScope s_written) (by decide +kernel)) (fun _ _ _ _ _ => (pg_name (i := 2) sc_written.nd rfl (by first | exact .inl rfl | exact .inr rfl))) (fun _ _ _ _ _ => pts_nil) (fun _ _ _ _ _ => (pe_tup (pa_cons pe_str (pa_cons (pv 2) pa_nil))))) pa_nil)))))), ?_⟩
  · rintro vs H Q E ⟨F, O, Ξ, xs, PX, wd, ra, ⟨d, y, rfl, _⟩, _⟩
    exact ra.length
  · rintro vs Q ⟨F, O, Ξ, xs, PX, wd, ra, ⟨d, y, rfl, ⟨sc, rfl, hs, hc, hno⟩, p⟩, q⟩
    have he := env_start (N := ["scope", "row", "letter"]) ra
    obtain ⟨h3, hsc⟩ := scope_txts hs
    refine raise_drop (ρ := startR 3 [.d (.tup (txts sc)), .d y]) ?_ wd he fun F1 H1 e1 w1 => ?_
    · refine re_callF ?_
      repeat contradiction
      exact ⟨[], O, .refl _, _, rfl, smallL_txts hs, hs, rfl⟩
    · refine raise_if (ρ := startR 3 [.d (.tup (txts sc)), .d y]) ?_ w1 (he.mono e1) fun F2 H2 D' e2 w2 => ?_
      · obtain ⟨t, ht⟩ := cl_ty hc
        have done : ∀ {d : D}, tyD d = some t → (∀ l, d ≠ .tup l) → kitB t "tuple" = some false := fun {d} h1 h2 => by
          cases d <;> cases h1 <;> first | (exact absurd rfl (h2 _)) | decide +kernel
        cases y with
        | tup l =>
          by_cases h20 : l.length ≤ 20
          · have hna : l.all (letterD sc) = false := by
              have : (decide (l.length ≤ 20) && l.all (letterD sc)) = false := hno
              rwa [decide_eq_true h20, Bool.true_and] at this
            repeat contradiction
            refine iff' (decide_eq_false (by omega)) ?_
            repeat contradiction
            refine re_allG (by simp [T, tabs]) (gin_name (by decide)) (ri_seq ?_)
            repeat contradiction
            refine ⟨_, _, rfl, rfl, fun i O' => O' = O ∧ (l.take i).all (letterD sc) = true, ⟨rfl, rfl⟩, ?_, ?_⟩
            · rintro O' ⟨rfl, h⟩
              rw [List.take_length, hna] at h
              cases h
            · rintro i dd O' ⟨rfl, h⟩ hi
              have hm := List.mem_of_getElem? hi
              obtain ⟨m, _, _, hmem⟩ := cl_tup hc
              refine rg_name (rt_yes (re_callF ?_))
              repeat contradiction
              refine ⟨[], O', .refl _, sc, dd, rfl, h3, hsc, cl_kinds (hmem dd hm), ?_⟩
              refine ⟨_, rfl, ?_⟩
              cases hb : letterD sc dd with
              | true =>
                refine ift rfl ⟨rfl, ?_⟩
                rw [List.take_add_one, hi, List.all_append, h]
                simpa using hb
              | false => exact iff' rfl ⟨false, rfl, rfl, rfl⟩
          · repeat contradiction
            refine ift (decide_eq_true (by omega)) ?_
            exact ⟨rfl, rfl⟩
        | raw v => cases ht
        | non => (repeat contradiction); exact ⟨rfl, rfl⟩
        | bl b => (repeat contradiction); exact ⟨rfl, rfl⟩
        | int i => (repeat contradiction); exact ⟨rfl, rfl⟩
        | str u => (repeat contradiction); exact ⟨rfl, rfl⟩
        | lst l => (repeat contradiction); exact ⟨rfl, rfl⟩
        | dic => (repeat contradiction); exact ⟨rfl, rfl⟩
        | scr l => cases hc
      · exact q F2 O H2 (e1.trans e2) w2 p
end K0
end
section
set_option Elab.async false
set_option linter.all false
set_option maxRecDepth 100000
set_option maxHeartbeats 4000000
namespace K0
open PySem PySem.Spec PyProof.Rows L2 Al RT
variable {P : Program} {w : World} {K : PySem.W.Frag} {mg : Str → Option Value} {base : Heap} {a : Ad}
local macro_rules
  | `(tactic| contradiction) => `(tactic| first
    | with_reducible refine rs_seq ?_ | with_reducible refine rs_if ?_ | with_reducible refine rs_ret ?_ | with_reducible refine rt_and ?_ | with_reducible refine rt_or ?_ | with_reducible refine rt_not ?_ | with_reducible refine rt_test ?_ | with_reducible refine rt_B ?_ | with_reducible refine rs_asg ?_ | with_reducible refine rs_par ?_
    | with_reducible refine re_cb ?_ | with_reducible refine re_op ?_ | with_reducible refine re_if ?_ | with_reducible refine re_un ?_ | with_reducible refine ra_cons ?_ | with_reducible refine ra_nil ?_ | with_reducible refine re_int ?_ | with_reducible refine re_str ?_ | with_reducible refine re_bl ?_ | with_reducible refine re_non ?_ | with_reducible refine re_ty ?_ 
    | refine re_var rfl (fun z => by cases z) ?_ | with_reducible refine rr_b ?_ | with_reducible refine rr_i ?_ | with_reducible refine ru_i ?_
    | with_reducible refine rc_isi rfl (by first | exact (show kitB _ _ = some true by decide +kernel) | exact (show kitB _ _ = some false by decide +kernel)) ?_
    | with_reducible refine rc_len rfl ?_ | with_reducible refine rr_ix rfl atI_0 ?_ | with_reducible refine rr_ix rfl atI_1 ?_
    | with_reducible refine rr_eqF rfl ?_ | with_reducible refine rr_neF rfl ?_ | with_reducible refine rr_addI ?_ | with_reducible refine rc_abs ?_ | with_reducible refine rc_int ?_ | with_reducible refine rc_min ?_
    | refine ⟨_, rfl, ?_⟩ | rw [if_pos rfl] | rw [if_neg Bool.false_ne_true] | with_reducible refine rs_next ?_ | (with_reducible refine ift ?_ ?_; focus (simp; done)) | (with_reducible refine iff' ?_ ?_; focus (simp; done)) | dsimp only)
/-! ### the law's paths, and what stands at them -/
theorem knot_inner {sc : List Str} {d : D} {l : List D} (h : knotD sc d = true) (hl : partsD d = some l) : innerD d = some l := by
  obtain ⟨u, r, rfl, q⟩ := knot_inv h
  rcases q with ⟨rfl, rfl⟩ | ⟨rfl, l, rfl, _⟩ | ⟨rfl, m, rfl, _⟩ | ⟨rfl, e, f, rfl⟩ | ⟨rfl, e, rfl⟩ | ⟨rfl, e, rfl⟩ <;> exact hl
theorem wv_inner {sc : List Str} {n : Nat} {d : D} (h : wvD sc n d = true) : innerD d = some (pts d) := by
  cases n with
  | zero => cases h
  | succ n =>
    have h' := h
    rw [wvD, Bool.and_eq_true] at h'
    exact knot_inner h'.1 (wv_parts h).1
def ptW : Nat → D → List (List Nat)
  | 0, _ => []
  | n + 1, d => [] :: ((pts d).zipIdx.map fun p => (ptW n p.1).map (p.2 :: ·)).flatten
def atW : D → List Nat → Option D
  | d, [] => some d
  | d, i :: p => match (pts d)[i]? with | some x => atW x p | none => none
theorem flat_sum {α β : Type} (f : β → List α) : ∀ l : List β, ((l.map f).flatten).length = (l.map fun x => (f x).length).sum
  | [] => rfl
  | x :: l => by rw [List.map_cons, List.map_cons, List.flatten_cons, List.length_append, List.sum_cons, flat_sum f l]
theorem zip_fst {β : Type} (g : D → β) : ∀ (l : List D) (k : Nat), (l.zipIdx k).map (fun p => g p.1) = l.map g
  | [], _ => rfl
  | x :: l, k => by rw [List.zipIdx_cons, List.map_cons, List.map_cons, zip_fst g l (k + 1)]
theorem pt_len {sc : List Str} : ∀ (n : Nat) (d : D), wvD sc n d = true → (ptW n d).length = cnt n d ∧ ∀ p ∈ ptW n d, p.length < n
  | 0, _, h => by cases h
  | n + 1, d, h => by
    have hp := pts_wv h
    constructor
    · rw [ptW, cnt_succ, List.length_cons, flat_sum]
      have e : (pts d).zipIdx.map (fun p => ((ptW n p.1).map (p.2 :: ·)).length) = (pts d).map (cnt n) := by
        have e1 : (pts d).zipIdx.map (fun p => ((ptW n p.1).map (p.2 :: ·)).length) = (pts d).zipIdx.map (fun p => (ptW n p.1).length) := List.map_congr_left fun p _ => List.length_map ..
        rw [e1, zip_fst (fun x => (ptW n x).length)]
        exact List.map_congr_left fun x hx => (pt_len n x (hp x hx)).1
      rw [e]
      omega
    · intro p hm
      rw [ptW] at hm
      rcases List.mem_cons.mp hm with rfl | hm
      · exact Nat.succ_pos _
      · obtain ⟨l, h1, h2⟩ := List.mem_flatten.mp hm
        obtain ⟨q, hq, rfl⟩ := List.mem_map.mp h1
        obtain ⟨r, hr, rfl⟩ := List.mem_map.mp h2
        have hx : q.1 ∈ pts d := by
          have := List.mem_zipIdx hq
          simp at this
          exact List.mem_of_getElem? (List.getElem?_eq_some_iff.mpr ⟨this.1, this.2.symm⟩)
        have := (pt_len n q.1 (hp _ hx)).2 r hr
        simp only [List.length_cons]
        omega
theorem at_pt {sc : List Str} : ∀ (n : Nat) (d : D), wvD sc n d = true → (ptW n d).map (atW d) = (subW n d).map some
  | 0, _, h => by cases h
  | n + 1, d, h => by
    have hp := pts_wv h
    rw [ptW, sub_succ, List.map_cons, List.map_cons, List.map_flatten, List.map_flatten, List.map_map, List.map_map]
    congr 2
    have e : (pts d).zipIdx.map ((List.map (atW d)) ∘ fun p : D × Nat => (ptW n p.1).map (p.2 :: ·)) = (pts d).zipIdx.map fun p => (subW n p.1).map some := List.map_congr_left fun q hq => by
      have hm := List.mem_zipIdx hq
      simp at hm
      have hg : (pts d)[q.2]? = some q.1 := List.getElem?_eq_some_iff.mpr ⟨hm.1, hm.2.symm⟩
      show ((ptW n q.1).map (q.2 :: ·)).map (atW d) = _
      rw [List.map_map, ← at_pt n q.1 (hp _ (List.mem_of_getElem? hg))]
      refine List.map_congr_left fun r _ => ?_
      show atW d (q.2 :: r) = atW q.1 r
      rw [atW, hg]
    rw [e, zip_fst (fun x => (subW n x).map some)]
    rfl
theorem pt_snoc (n : Nat) (l : List D) (i : Nat) (x : D) (h : l[i]? = some x) : ((l.take (i + 1)).zipIdx.map fun p => (ptW n p.1).map (p.2 :: ·)).flatten = ((l.take i).zipIdx.map fun p => (ptW n p.1).map (p.2 :: ·)).flatten ++ (ptW n x).map (i :: ·) := by
  have hi := (List.getElem?_eq_some_iff.mp h).1
  rw [List.take_add_one, h]
  show (((l.take i) ++ [x]).zipIdx.map _).flatten = _
  rw [List.zipIdx_append, List.map_append, List.flatten_append]
  simp [List.length_take, Nat.min_eq_left (Nat.le_of_lt hi)]
def spNdS (N : Nat) : Prm := fun xs O Pv => ∃ sc d n, xs = [.d d] ∧ n < N ∧ N ≤ 100 ∧ wvD sc n d = true ∧ cnt n d ≤ 1000 ∧ Pv (.d (.lst ((ptW n d).map pT))) O
theorem ok_nds {k : Nat} (X : Txt K mg base a) : ∀ N : Nat, FnOk P w K mg base CX0 (k + 1 + N) a.f_law_nodes a.d_law_nodes ["weave"] (spOf K (T a) (spNdS N))
  | 0 => fn_never fun xs O Pv ⟨sc, d, n, _, h, _⟩ => absurd h (Nat.not_lt_zero _)
  | N + 1 => by
    have G_law_nodes := ok_nds (k := k) X N
    have G_law_inner := ok_inner (P := P) (w := w) (k := k) X
    refine FunT.ok (k := k + 1 + N) X.F_law_nodes sc_law_nodes ?_ fun A outer s H E hr => ⟨_, (pss_cons (ps_set (i := 1) sc_law_nodes.nd rfl (by first | exact .inl rfl | exact .inr rfl) (pe_lst (pa_cons (pe_tup pa_nil) pa_nil))) (pss_cons (ps_for PassesOwn.never rfl (pi_enumK (K := K) rfl (by rfl) X.m_enumerate (pa_cons (pe_call (G_law_inner) (hr.mono (by omega)) (by rfl) X.g_law_inner X.F_law_inner.kp X.b_law_inner .nil pass0 (pa_cons (pv 0) pa_nil)) pa_nil)) (pg_tupK (K := K) (n := 2) rfl rfl (pgs_cons (pg_name (i := 2) sc_law_nodes.nd rfl (by first | exact .inl rfl | exact .inr rfl)) (pgs_cons (pg_name (i := 3) sc_law_nodes.nd rfl (by first | exact .inl rfl | exact .inr rfl)) pgs_nil))) (pss_one (ps_set (i := 1) sc_law_nodes.nd rfl (by first | exact .inl rfl | exact .inr rfl) (pe_op (op_addAK (K := K) rfl) (pv 1) (pe_lc (own := [("path", 4)]) rfl sc_law_nodes.nd (Al.pi_seqK (K := K) rfl (pe_call (G_law_nodes) (hr.mono (by omega)) (by rfl) X.g_law_nodes X.F_law_nodes.kp X.b_law_nodes .nil pass0 (pa_cons (pv 3) pa_nil))) (blkOk_by (own := [("path", 4)]) (N := ["weave", "found", "k", "part", "path"]) (sc := defScope s_law_nodes) (by decide +kernel)) (fun _ _ _ _ _ => (pg_name (i := 4) sc_law_nodes.nd rfl (by first | exact .inl rfl | exact .inr rfl))) (fun _ _ _ _ _ => pts_nil) (fun _ _ _ _ _ => (pe_op (op_addAK (K := K) rfl) (pe_tup (pa_cons (pv 2) pa_nil)) (pv 4)))))))) (pss_one (ps_ret (pv 1))))), ?_⟩
    · rintro xs O Pv ⟨sc, d, n, rfl, _⟩
      rfl
    · rintro xs O Pv ⟨sc, d, n, rfl, hn, hN, hw, hc, p⟩
      cases n with
      | zero => cases hw
      | succ n =>
        have hin := wv_inner hw
        have hpw := pts_wv hw
        have hcs := cnt_succ n d
        repeat contradiction
        refine re_lstD ?_
        repeat contradiction
        refine re_tupD ?_
        repeat contradiction
        refine ⟨rfl, ?_⟩
        repeat contradiction
        refine ⟨rfl, ?_⟩
        refine rs_seq (rs_for (ri_enum ?_))
        repeat contradiction
        refine re_callF ?_
        repeat contradiction
        refine ⟨[], O, .refl _, d, pts d, rfl, hin, ?_⟩
        repeat contradiction
        refine ⟨_, _, rfl, rfl, fun (i : Nat) ρ' O' => O' = O ∧ ∃ (x y z : Sl), ρ' = [.d d, .d (.lst (([] :: (((pts d).take i).zipIdx.map fun p => (ptW n p.1).map (p.2 :: ·)).flatten).map pT)), x, y, z], ⟨rfl, _, _, _, rfl⟩, ?_, ?_⟩
        · rintro ρ' O' ⟨rfl, x, y, z, rfl⟩
          rw [Al.pairs_len, List.take_length]
          repeat contradiction
          exact p
        · rintro i dd ρ' O' ⟨rfl, x, y, z, rfl⟩ hi
          obtain ⟨v, hv, rfl⟩ := pairs_get hi
          have hm := List.mem_of_getElem? hv
          have hvw : wvD sc n v = true := hpw v hm
          have hsz : ∀ j, ((((pts d).take j).zipIdx.map fun p => (ptW n p.1).map (p.2 :: ·)).flatten).length ≤ 1000 := fun j => by
            rw [flat_sum]
            have e1 : ((pts d).take j).zipIdx.map (fun p => ((ptW n p.1).map (p.2 :: ·)).length) = ((pts d).take j).map (cnt n) := by
              have e1 : ((pts d).take j).zipIdx.map (fun p => ((ptW n p.1).map (p.2 :: ·)).length) = ((pts d).take j).zipIdx.map (fun p => (ptW n p.1).length) := List.map_congr_left fun p _ => List.length_map ..
              rw [e1, zip_fst (fun x => (ptW n x).length)]
              exact List.map_congr_left fun x hx => (pt_len n x (hpw x (List.mem_of_mem_take hx))).1
            rw [e1]
            have := sum_sub (f := cnt n) (List.take_sublist j (pts d))
            omega
          have hvc : cnt n v ≤ 1000 := by have := mem_sum (f := cnt n) hm; omega
          obtain ⟨hvl, _⟩ := pt_len n v hvw
          refine rg_two ?_
          repeat contradiction
          refine re_lc (gin_name (by decide)) (ri_seq (re_callF ?_))
          repeat contradiction
          refine ⟨[], O', .refl _, sc, v, n, rfl, by omega, by omega, hvw, hvc, ?_⟩
          refine ⟨_, _, rfl, rfl, fun (j : Nat) acc O3 => O3 = O' ∧ acc = (((ptW n v).take j).map (i :: ·)).map pT ∧ acc.length ≤ j, ⟨rfl, rfl, Nat.le_refl _⟩, small5 (by rw [List.length_map]; omega), ?_, ?_⟩
          · rintro acc O3 ⟨rfl, rfl, _⟩
            rw [List.length_map, List.take_length]
            have := hsz i
            refine rr_addL (Nat.le_of_lt (small5 (by simp only [List.length_map, List.length_cons]; omega))) ?_
            refine ⟨rfl, .d (.int (i : Nat)), .d v, z, ?_⟩
            rw [pt_snoc n (pts d) i v hv]
            simp
          · rintro j d2 acc O3 ⟨rfl, rfl, hj⟩ hi2
            obtain ⟨m, hm2, rfl⟩ := Option.map_eq_some_iff.mp (by simpa using hi2)
            refine rg_name (rt_yes ?_)
            repeat contradiction
            refine re_tupD ?_
            repeat contradiction
            refine ⟨rfl, ?_⟩
            repeat contradiction
            have hml := (pt_len n v hvw).2 m (List.mem_of_getElem? hm2)
            refine rr_addT (m := m.map fun i => D.int (i : Nat)) ?_ ?_
            · rw [List.length_map]
              exact Nat.le_of_lt (small1000 (by simp only [List.length_cons, List.length_nil]; omega))
            · refine ⟨_, rfl, hj, rfl, ?_, by rw [List.length_append]; exact Nat.succ_le_succ hj⟩
              rw [List.take_add_one, hm2]
              simp [pT]
def spAt : Prm := fun xs O Pv => ∃ sc n d p x, xs = [.d d, .d (pT p)] ∧ wvD sc n d = true ∧ atW d p = some x ∧ Pv (.d x) O
theorem ok_at {k : Nat} (X : Txt K mg base a) : FnOk P w K mg base CX0 (k + 2) a.f_law_at a.d_law_at ["weave", "path"] (spOf K (T a) spAt) := by
  have G_law_inner := ok_inner (P := P) (w := w) (k := k) X
  refine FunT.ok (k := k + 1) X.F_law_at sc_law_at ?_ fun A outer s H E hr => ⟨_, (pss_cons (ps_for PassesOwn.never rfl (Al.pi_seqK (K := K) rfl (pv 1)) (pg_name (i := 2) sc_law_at.nd rfl (by first | exact .inl rfl | exact .inr rfl)) (pss_one (ps_set (i := 0) sc_law_at.nd rfl (by first | exact .inl rfl | exact .inr rfl) (pe_ix (ix_seqK (K := K) rfl) (pe_call (G_law_inner) (hr.mono (by omega)) (by rfl) X.g_law_inner X.F_law_inner.kp X.b_law_inner .nil pass0 (pa_cons (pv 0) pa_nil)) (pv 2) (fun _ _ => rfl))))) (pss_one (ps_ret (pv 0)))), ?_⟩
  · rintro xs O Pv ⟨sc, n, d, p, x, rfl, _⟩
    rfl
  · rintro xs O Pv ⟨sc, n, d, p, x, rfl, hw, hx, q⟩
    refine rs_seq (rs_for (ri_seq ?_))
    repeat contradiction
    refine ⟨_, p.map (fun i => D.int (i : Nat)), rfl, rfl, fun i ρ' O' => O' = O ∧ ∃ cur m z, ρ' = [.d cur, .d (pT p), z] ∧ wvD sc m cur = true ∧ atW cur (p.drop i) = some x, ⟨rfl, d, n, _, rfl, hw, hx⟩, ?_, ?_⟩
    · rintro ρ' O' ⟨rfl, cur, m, z, rfl, hc, h⟩
      rw [List.length_map, List.drop_length, atW] at h
      cases h
      repeat contradiction
      exact q
    · rintro i dd ρ' O' ⟨rfl, cur, m, z, rfl, hc, h⟩ hi
      rw [List.getElem?_map] at hi
      obtain ⟨j, hj, rfl⟩ := Option.map_eq_some_iff.mp hi
      have ed : p.drop i = j :: p.drop (i + 1) := by
        obtain ⟨h1, h2⟩ := List.getElem?_eq_some_iff.mp hj
        rw [List.drop_eq_getElem_cons h1, h2]
      rw [ed, atW] at h
      cases hy : (pts cur)[j]? with
      | none => rw [hy] at h; cases h
      | some y =>
        rw [hy] at h
        cases m with
        | zero => cases hc
        | succ m =>
          refine rg_name ?_
          repeat contradiction
          refine re_callF ?_
          repeat contradiction
          refine ⟨[], O', .refl _, cur, pts cur, rfl, wv_inner hc, ?_⟩
          repeat contradiction
          refine rr_ix rfl (atI_nat hy) ?_
          exact ⟨rfl, y, m, _, rfl, pts_wv hc y (List.mem_of_getElem? hy), h⟩
/-! ### the law's told -/
theorem eq_tE (o : Option (List D)) : (!eqD (tD o) (.tup [])) = !isE o := by
  cases o with
  | none => rfl
  | some l => cases l <;> simp [tD, isE, eqD, eqL]
theorem eq_tN (o : Option (List D)) : eqD (tD o) .non = o.isNone := by cases o <;> rfl
theorem td_letters {sc : List Str} {n : Nat} {d : D} (h : wvD sc n d = true) {l : List D} (e : tdW n d = some l) : (∀ x ∈ l, letterD sc x = true) ∧ l.length ≤ cnt n d := by
  rw [← td_let n d h l e]
  exact let_letters n d h
theorem tD_plain {sc : List Str} (hsc : ∀ u ∈ sc, nameS u = true) {n : Nat} {d : D} (h : wvD sc n d = true) : Al.plain 2 (tD (tdW n d)) = true := by
  cases q : tdW n d with
  | none => rfl
  | some l =>
    show Al.plain 2 (.tup l) = true
    rw [Al.plain]
    exact plainL_of fun x hx => (letter_tree hsc ((td_letters h q).1 x hx)).1
theorem endl_in {sc : List Str} {n : Nat} {u : Str} {r : List D} (h : wvD sc (n + 1) (.tup (.str u :: r)) = true) : inD (.str u) [.str "on", .str "back", .str "mix"] = endl (.tup (.str u :: r)) := by
  have key : ∀ {d : D} {v : Str}, D.tup (.str u :: r) = .tup (.str v :: d :: []) ∨ True → True := fun _ => trivial
  rcases wv_cases h with z | ⟨l, z, _⟩ | ⟨m, z, _, hm⟩ | ⟨e, f, z, he, hf⟩ | ⟨e, z, he⟩ | ⟨e, z, he⟩ <;> (injection z with z; injection z with z1 z2; injection z1 with z1; subst z1; rfl)
def spTold (N : Nat) : Prm := fun xs O Pv => ∃ sc d n, xs = [.d d] ∧ n < N ∧ N ≤ 100 ∧ wvD sc n d = true ∧ cnt n d ≤ 1000 ∧ (∀ u ∈ sc, nameS u = true) ∧ Pv (.d (tD (tdW n d))) O
theorem ok_told {k : Nat} (X : Txt K mg base a) : ∀ N : Nat, FnOk P w K mg base CX0 (k + 2 + N) a.f_law_told a.d_law_told ["weave"] (spOf K (T a) (spTold N))
  | 0 => fn_never fun xs O Pv ⟨sc, d, n, _, h, _⟩ => absurd h (Nat.not_lt_zero _)
  | N + 1 => by
    have G_law_told := ok_told (k := k) X N
    have G_law_inner := ok_inner (P := P) (w := w) (k := k) X
    refine FunT.ok (k := k + 2 + N) X.F_law_told sc_law_told ?_ fun A outer s H E hr => ⟨_, (pss_cons (ps_par (i := 1) (j := 2) (by rfl) sc_law_told.nd rfl rfl (by decide) rfl rfl (pa_cons (pe_ix (ix_seqK (K := K) rfl) (pv 0) pe_int (fun _ _ => rfl)) (pa_cons (pe_lc (own := [("part", 3)]) rfl sc_law_told.nd (Al.pi_seqK (K := K) rfl (pe_call (G_law_inner) (hr.mono (by omega)) (by rfl) X.g_law_inner X.F_law_inner.kp X.b_law_inner .nil pass0 (pa_cons (pv 0) pa_nil))) (blkOk_by (own := [("part", 3)]) (N := ["weave", "word", "parts", "part", "told", "found"]) (sc := defScope s_law_told) (by decide +kernel)) (fun _ _ _ _ _ => (pg_name (i := 3) sc_law_told.nd rfl (by first | exact .inl rfl | exact .inr rfl))) (fun _ _ _ _ _ => pts_nil) (fun _ _ _ _ _ => (pe_call (G_law_told) (hr.mono (by omega)) (by rfl) X.g_law_told X.F_law_told.kp X.b_law_told .nil pass0 (pa_cons (pv 3) pa_nil)))) pa_nil)) (by rfl)) (pss_cons (ps_if (pt_cmpR (op_eqAK (K := K) rfl (Al.room_u hr)) (pv 1) pe_str (nomark _)) (pss_one (ps_ret (pe_tup (pa_cons (pe_ix (ix_seqK (K := K) rfl) (pv 0) pe_int (fun _ _ => rfl)) pa_nil)))) pss_nil) (pss_cons (ps_if (pt_cmpR (op_inK (K := K) rfl) (pv 1) (pe_lst (pa_cons pe_str (pa_cons pe_str (pa_cons pe_str pa_nil)))) (by rfl)) (pss_one (ps_ret (pe_ifExp (pt_cmpR (op_eqAK (K := K) rfl (Al.room_u hr)) (pe_lc (own := [("told", 4)]) rfl sc_law_told.nd (Al.pi_seqK (K := K) rfl (pv 2)) (blkOk_by (own := [("told", 4)]) (N := ["weave", "word", "parts", "part", "told", "found"]) (sc := defScope s_law_told) (by decide +kernel)) (fun _ _ _ _ _ => (pg_name (i := 4) sc_law_told.nd rfl (by first | exact .inl rfl | exact .inr rfl))) (fun _ _ _ _ _ => (pts_one (pt_cmpR (op_neAK (K := K) rfl (Al.room_u hr)) (pv 4) (pe_tup pa_nil) (nomark _)))) (fun _ _ _ _ _ => (pv 4))) (pe_lst pa_nil) (nomark _)) (pe_tup pa_nil) pe_non))) pss_nil) (pss_cons (ps_if (pt_cmpR (op_inDK (K := K) rfl (Al.room_u65 hr)) pe_non (pv 2) (by rfl)) (pss_one (ps_ret pe_non)) pss_nil) (pss_cons (ps_set (i := 5) sc_law_told.nd rfl (by first | exact .inl rfl | exact .inr rfl) (pe_tup pa_nil)) (pss_cons (ps_for PassesOwn.never rfl (Al.pi_seqK (K := K) rfl (pv 2)) (pg_name (i := 4) sc_law_told.nd rfl (by first | exact .inl rfl | exact .inr rfl)) (pss_one (ps_set (i := 5) sc_law_told.nd rfl (by first | exact .inl rfl | exact .inr rfl) (pe_op (op_addAK (K := K) rfl) (pv 5) (pv 4))))) (pss_one (ps_ret (pv 5))))))))), ?_⟩
    · rintro xs O Pv ⟨sc, d, n, rfl, _⟩
      rfl
    · rintro xs O Pv ⟨sc, d, n, rfl, hn, hN, hw, hc, hsc, p⟩
      cases n with
      | zero => cases hw
      | succ n =>
        obtain ⟨u, r, rfl, hd, _⟩ := wv_head hw
        have hin := wv_inner hw
        have hpw := pts_wv hw
        have hcs := cnt_succ n (.tup (.str u :: r))
        have hlc := len_cnt hpw
        have hend := endl_in hw
        repeat contradiction
        refine re_lc (gin_name (by decide)) (ri_seq (re_callF ?_))
        repeat contradiction
        refine ⟨[], O, .refl _, _, _, rfl, hin, ?_⟩
        generalize hP : pts (.tup (.str u :: r)) = ps at *
        refine ⟨_, _, rfl, rfl, fun i acc O' => O' = O ∧ acc = (ps.take i).map (fun x => tD (tdW n x)) ∧ acc.length ≤ i, ⟨rfl, rfl, Nat.le_refl _⟩, small1000 (by omega), ?_, ?_⟩
        · rintro acc O' ⟨rfl, rfl, _⟩
          rw [List.take_length]
          repeat contradiction
          refine ⟨_, _, rfl, ?_⟩
          repeat contradiction
          rw [show eqD (.str u) (.str "letter") = (u == "letter") from rfl]
          rcases hd with ⟨l, hu, rfl, hq⟩ | ⟨hu, hq⟩
          · refine ift hu ?_
            refine rs_ret (re_tupD ?_)
            repeat contradiction
            refine ⟨rfl, ?_⟩
            have e : tdW (n + 1) (.tup [.str u, .tup l]) = some [.tup l] := by rw [tdW, hq]
            rw [e] at p
            exact p
          · refine iff' hu ?_
            refine rs_next (rs_seq (rs_if (rt_test ?_)))
            repeat contradiction
            refine re_lstD ?_
            repeat contradiction
            refine ⟨rfl, ?_⟩
            refine rr_in rfl rfl rfl ?_
            rw [if_neg Bool.false_ne_true, hend]
            refine ⟨_, rfl, ?_⟩
            have pe : tdW (n + 1) (.tup (.str u :: r)) = if endl (.tup (.str u :: r)) = true then (if (ps.map (tdW n)).all isE = true then some [] else none) else if (ps.map (tdW n)).any (·.isNone) = true then none else some ((ps.map (tdW n)).map (·.getD [])).flatten := by rw [tdW, hq, hP]
            rw [pe] at p
            cases hh : endl (.tup (.str u :: r)) with
            | true =>
              rw [hh, if_pos rfl] at p
              refine ift rfl ?_
              refine rs_ret (re_if (rt_test (re_op ?_)))
              refine re_lc (gin_name (by decide)) (ri_seq ?_)
              repeat contradiction
              refine ⟨_, _, rfl, rfl, fun i acc O2 => O2 = O' ∧ acc.isEmpty = ((ps.take i).map (tdW n)).all isE ∧ acc.length ≤ i, ⟨rfl, rfl, Nat.le_refl _⟩, small1000 (by rw [List.length_map]; omega), ?_, ?_⟩
              · rintro acc O2 ⟨rfl, hacc, _⟩
                rw [List.length_map, List.take_length] at hacc
                refine re_lstD ?_
                repeat contradiction
                refine ⟨rfl, ?_⟩
                refine rr_eqL0 ?_
                rw [hacc]
                refine ⟨_, rfl, ?_⟩
                cases hz : (ps.map (tdW n)).all isE with
                | true =>
                  rw [hz, if_pos rfl] at p
                  refine ift rfl (re_tupD ?_)
                  repeat contradiction
                  exact ⟨rfl, p⟩
                | false =>
                  rw [hz, if_neg Bool.false_ne_true] at p
                  refine iff' rfl ?_
                  repeat contradiction
                  exact p
              · rintro i dd acc O2 ⟨rfl, hacc, hal⟩ hi
                rw [List.getElem?_map] at hi
                obtain ⟨x, hx, rfl⟩ := Option.map_eq_some_iff.mp hi
                have hxw := hpw x (List.mem_of_getElem? hx)
                refine rg_name (rt_test ?_)
                repeat contradiction
                refine re_tupD ?_
                repeat contradiction
                refine ⟨rfl, ?_⟩
                refine rr_ne (n := 2) (m := 1) (tD_plain hsc hxw) rfl (by decide) (by decide) ?_
                rw [eq_tE]
                refine ⟨_, rfl, ?_⟩
                have et : ((ps.take (i + 1)).map (tdW n)).all isE = (((ps.take i).map (tdW n)).all isE && isE (tdW n x)) := by
                  rw [List.take_add_one, hx, List.map_append, List.all_append]
                  simp
                cases hz : isE (tdW n x) with
                | true =>
                  refine iff' rfl ⟨rfl, ?_, by omega⟩
                  rw [et, hz, Bool.and_true]
                  exact hacc
                | false =>
                  refine ift rfl ?_
                  repeat contradiction
                  refine ⟨hal, rfl, ?_, by rw [List.length_append]; exact Nat.succ_le_succ hal⟩
                  rw [et, hz, Bool.and_false]
                  cases acc <;> rfl
            | false =>
              rw [hh, if_neg Bool.false_ne_true] at p
              refine iff' rfl ?_
              refine rs_next (rs_seq (rs_if (rt_test ?_)))
              repeat contradiction
              refine rr_inP (n := 0) (m := 2) rfl (pl_all fun y hy => ?_) (by decide) (by decide) ?_
              · obtain ⟨x, hx, rfl⟩ := List.mem_map.mp hy
                exact tD_plain hsc (hpw x hx)
              · have ei : inP .non (ps.map fun x => tD (tdW n x)) = (ps.map (tdW n)).any (·.isNone) := by
                  unfold inP
                  rw [List.any_map, List.any_map]
                  congr 1
                  funext x
                  exact eq_tN _
                rw [ei]
                refine ⟨_, rfl, ?_⟩
                cases hz : (ps.map (tdW n)).any (·.isNone) with
                | true =>
                  rw [hz, if_pos rfl] at p
                  refine ift rfl ?_
                  repeat contradiction
                  exact p
                | false =>
                  rw [hz, if_neg Bool.false_ne_true] at p
                  refine iff' rfl ?_
                  refine rs_next (rs_seq (rs_asg (re_tupD ?_)))
                  repeat contradiction
                  refine ⟨rfl, ?_⟩
                  have hsome : ∀ x ∈ ps, ∃ l, tdW n x = some l := fun x hx => by
                    cases q : tdW n x with
                    | some l => exact ⟨l, rfl⟩
                    | none =>
                      have : (ps.map (tdW n)).any (·.isNone) = true := List.any_eq_true.mpr ⟨_, List.mem_map.mpr ⟨x, hx, rfl⟩, by rw [q]; rfl⟩
                      rw [hz] at this
                      cases this
                  have hlen : ∀ i, ((((ps.take i).map (tdW n)).map (·.getD [])).flatten).length ≤ 1000 := fun i => by
                    rw [List.map_map, flat_sum]
                    have : ∀ l : List D, (∀ x ∈ l, wvD sc n x = true) → (l.map fun x => ((Option.getD · []) ∘ tdW n) x |>.length).sum ≤ (l.map (cnt n)).sum := by
                      intro l
                      induction l with
                      | nil => intro _; exact Nat.le_refl _
                      | cons x l ih =>
                        intro hl
                        rw [List.map_cons, List.map_cons, List.sum_cons, List.sum_cons]
                        have h1 := ih fun y hy => hl y (.tail _ hy)
                        have h2 : (((Option.getD · []) ∘ tdW n) x).length ≤ cnt n x := by
                          show ((tdW n x).getD []).length ≤ _
                          cases q : tdW n x with
                          | none => exact Nat.zero_le _
                          | some m => exact (td_letters (hl x (.head _)) q).2
                        omega
                    have h1 := this (ps.take i) fun x hx => hpw x (List.mem_of_mem_take hx)
                    have h2 := sum_sub (f := cnt n) (List.take_sublist i ps)
                    omega
                  refine rs_seq (rs_for (ri_seq ?_))
                  repeat contradiction
                  refine ⟨_, _, rfl, rfl, fun i ρ' O2 => O2 = O' ∧ ∃ y z, ρ' = [.d (.tup (.str u :: r)), .d (.str u), .d (.lst (ps.map fun x => tD (tdW n x))), y, z, .d (.tup (((ps.take i).map (tdW n)).map (·.getD [])).flatten)], ⟨rfl, _, _, rfl⟩, ?_, ?_⟩
                  · rintro ρ' O2 ⟨rfl, y, z, rfl⟩
                    rw [List.length_map, List.take_length]
                    repeat contradiction
                    exact p
                  · rintro i dd ρ' O2 ⟨rfl, y, z, rfl⟩ hi
                    rw [List.getElem?_map] at hi
                    obtain ⟨x, hx, rfl⟩ := Option.map_eq_some_iff.mp hi
                    obtain ⟨l, hl⟩ := hsome x (List.mem_of_getElem? hx)
                    have et : ((((ps.take (i + 1)).map (tdW n)).map (·.getD [])).flatten) = ((((ps.take i).map (tdW n)).map (·.getD [])).flatten) ++ l := by
                      rw [List.take_add_one, hx, List.map_append, List.map_append, List.flatten_append]
                      simp [hl]
                    have := hlen (i + 1)
                    rw [et, List.length_append] at this
                    refine rg_name ?_
                    repeat contradiction
                    rw [hl]
                    refine rr_addT (Nat.le_of_lt (small1000 this)) ?_
                    refine ⟨rfl, y, .d (tD (some l)), ?_⟩
                    rw [et]
                    rfl
        · rintro i dd acc O' ⟨rfl, rfl, hal⟩ hi
          have hm := List.mem_of_getElem? hi
          refine rg_name (rt_yes (re_callF ?_))
          repeat contradiction
          have := mem_sum (f := cnt n) hm
          refine ⟨[], O', .refl _, sc, dd, n, rfl, by omega, by omega, hpw dd hm, by omega, hsc, ?_⟩
          refine ⟨_, rfl, hal, rfl, ?_, by rw [List.length_append]; exact Nat.succ_le_succ hal⟩
          rw [List.take_add_one, hi]
          simp
end K0
end
section
set_option Elab.async false
set_option linter.all false
set_option maxRecDepth 100000
set_option maxHeartbeats 4000000
namespace K0
open PySem PySem.Spec PyProof.Rows L2 Al RT
variable {P : Program} {w : World} {K : PySem.W.Frag} {mg : Str → Option Value} {base : Heap} {a : Ad}
local macro_rules
  | `(tactic| contradiction) => `(tactic| first
    | with_reducible refine rs_seq ?_ | with_reducible refine rs_if ?_ | with_reducible refine rs_ret ?_ | with_reducible refine rt_and ?_ | with_reducible refine rt_or ?_ | with_reducible refine rt_not ?_ | with_reducible refine rt_test ?_ | with_reducible refine rt_B ?_ | with_reducible refine rs_asg ?_ | with_reducible refine rs_par ?_
    | with_reducible refine re_cb ?_ | with_reducible refine re_op ?_ | with_reducible refine re_if ?_ | with_reducible refine re_un ?_ | with_reducible refine ra_cons ?_ | with_reducible refine ra_nil ?_ | with_reducible refine re_int ?_ | with_reducible refine re_str ?_ | with_reducible refine re_bl ?_ | with_reducible refine re_non ?_ | with_reducible refine re_ty ?_ 
    | refine re_var rfl (fun z => by cases z) ?_ | with_reducible refine rr_b ?_ | with_reducible refine rr_i ?_ | with_reducible refine ru_i ?_
    | with_reducible refine rc_isi rfl (by first | exact (show kitB _ _ = some true by decide +kernel) | exact (show kitB _ _ = some false by decide +kernel)) ?_
    | with_reducible refine rc_len rfl ?_ | with_reducible refine rr_ix rfl atI_0 ?_ | with_reducible refine rr_ix rfl atI_1 ?_
    | with_reducible refine rr_eqF rfl ?_ | with_reducible refine rr_neF rfl ?_ | with_reducible refine rr_addI ?_ | with_reducible refine rc_abs ?_ | with_reducible refine rc_int ?_ | with_reducible refine rc_min ?_
    | refine ⟨_, rfl, ?_⟩ | rw [if_pos rfl] | rw [if_neg Bool.false_ne_true] | with_reducible refine rs_next ?_ | (with_reducible refine ift ?_ ?_; focus (simp; done)) | (with_reducible refine iff' ?_ ?_; focus (simp; done)) | dsimp only)
/-! ### values that are none -/
def sB (d : D) : Bool := (tyD d).isSome && (match d with | .str x => decide (x.length ≤ 1000) | _ => true)
def sLB (d : D) : Bool := (tyD d).isSome && (match d with | .tup l => l.all sB | _ => true)
theorem sB_of {d : D} (h : sB d = true) : small d := by
  unfold sB at h
  rw [Bool.and_eq_true, Option.isSome_iff_exists] at h
  refine ⟨h.1, fun x e => ?_⟩
  subst e
  exact Nat.le_of_lt (small1000 (of_decide_eq_true h.2))
theorem sLB_of {d : D} (h : sLB d = true) : smallL d := by
  unfold sLB at h
  rw [Bool.and_eq_true, Option.isSome_iff_exists] at h
  refine ⟨h.1, fun l e x hx => ?_⟩
  subst e
  exact sB_of (List.all_eq_true.mp h.2 x hx)
def offL : List D := [.non, .lst [.str "a"], .tup [.str "b", .str "a"], .tup [.str "a", .str "b", .str "c", .str "d"], .tup [.str "A"], .str "ab", .tup [.int 5]]
theorem off_ok : ∀ x ∈ offL, smallL x ∧ scopeD x = false := by
  have : (offL.all fun x => sLB x && !scopeD x) = true := by decide +kernel
  intro x hx
  have h := List.all_eq_true.mp this x hx
  rw [Bool.and_eq_true] at h
  exact ⟨sLB_of h.1, by simpa using h.2⟩
theorem nz_in {sc : List Str} (nz : ∀ u ∈ sc, (u == "zzzz") = false) : letterD sc (.tup [.str "zzzz"]) = false := by
  have : inSc sc (.str "zzzz") = false := by
    cases q : inSc sc (.str "zzzz") with
    | false => rfl
    | true =>
      obtain ⟨u, e, hu⟩ := inSc_str q
      injection e with e
      have := nz u hu
      rw [← e] at this
      exact absurd this (by decide +kernel)
  rw [letter_tup]
  simp only [List.all_cons, List.all_nil, this, Bool.false_and, Bool.and_false]
def oddL : List D := [.non, .int 5, .lst [.tup []], .str "ab", .tup [.int 5], .tup [.tup [.str "zzzz"]], .tup (List.replicate (21 : Int).toNat [D.tup []]).flatten, .tup [.str "ab"]]
theorem odd_ok {sc : List Str} (nz : ∀ u ∈ sc, (u == "zzzz") = false) : ∀ x ∈ oddL, cl 3 x = true ∧ rowOk sc x = false := by
  intro x hx
  simp only [oddL, List.mem_cons, List.not_mem_nil, or_false] at hx
  rcases hx with rfl | rfl | rfl | rfl | rfl | rfl | rfl | rfl
  · exact ⟨rfl, rfl⟩
  · exact ⟨rfl, rfl⟩
  · exact ⟨by decide +kernel, rfl⟩
  · exact ⟨by decide +kernel, rfl⟩
  · exact ⟨by decide +kernel, rfl⟩
  · refine ⟨by decide +kernel, ?_⟩
    show (true && (letterD sc (.tup [.str "zzzz"]) && true)) = false
    rw [nz_in nz]
    rfl
  · exact ⟨by decide +kernel, rfl⟩
  · exact ⟨by decide +kernel, rfl⟩
def one0 : D := .tup [.str "letter", .tup []]
def badL (sc : List Str) : List D :=
  [.non, .int 5, .str "none", .tup [], .tup [.str "none", .int 1], .lst [.str "none"], .tup [.str "letter"], .tup [.str "letter", .str "a"], .tup [.str "letter", .tup [.str "zzzz"]], .tup [.str "then", one0], .tup [.str "on", one0, one0]] ++
  [.tup [.str "mix", .tup []], .tup [.str "mix", .lst [one0]], .tup [.str "mix", .tup [one0, one0]], .tup [.str "back", .non], .tup [.str "letter", .tup (List.replicate (2 : Int).toNat (txts sc ++ [.str "a"])).flatten], .tup [.str "word", one0]]
theorem kn {sc : List Str} {y : D} (h : knotD sc y = false) : okW sc 60 y 400 = false := by
  unfold okW
  rw [wvD, h]
  rfl
theorem bad_ok {sc : List Str} (hs : scopeD (.tup (txts sc)) = true) (nz : ∀ u ∈ sc, (u == "zzzz") = false) : ∀ y ∈ badL sc, cl 4 y = true ∧ okW sc 60 y 400 = false := by
  obtain ⟨h3, hsc⟩ := scope_txts hs
  intro y hy
  simp only [badL, List.cons_append, List.nil_append, List.mem_cons, List.not_mem_nil, or_false] at hy
  rcases hy with rfl | rfl | rfl | rfl | rfl | rfl | rfl | rfl | rfl | rfl | rfl | rfl | rfl | rfl | rfl | rfl | rfl
  · exact ⟨rfl, kn rfl⟩
  · exact ⟨rfl, kn rfl⟩
  · exact ⟨by decide +kernel, kn rfl⟩
  · exact ⟨by decide +kernel, kn rfl⟩
  · exact ⟨by decide +kernel, kn rfl⟩
  · exact ⟨by decide +kernel, kn rfl⟩
  · exact ⟨by decide +kernel, kn rfl⟩
  · exact ⟨by decide +kernel, kn rfl⟩
  · refine ⟨by decide +kernel, kn ?_⟩
    show (true && letterD sc (.tup [.str "zzzz"])) = false
    rw [nz_in nz]
    rfl
  · exact ⟨by decide +kernel, kn rfl⟩
  · exact ⟨by decide +kernel, kn rfl⟩
  · exact ⟨by decide +kernel, kn rfl⟩
  · exact ⟨by decide +kernel, kn rfl⟩
  · refine ⟨by decide +kernel, ?_⟩
    have e : okW sc 60 (.tup [.str "mix", .tup [one0, one0]]) 400 = (wvD sc 60 (.tup [.str "mix", .tup [one0, one0]]) && decide ((cnt 60 (.tup [.str "mix", .tup [one0, one0]]) : Int) ≤ 400)) := rfl
    have e2 : ascIf (.tup [.str "mix", .tup [one0, one0]]) = false := by decide +kernel
    rw [e, wvD, e2, Bool.and_false, Bool.and_false, Bool.false_and]
  · refine ⟨by decide +kernel, ?_⟩
    have e : okW sc 60 (.tup [.str "back", .non]) 400 = (wvD sc 60 (.tup [.str "back", .non]) && decide ((cnt 60 (.tup [.str "back", .non]) : Int) ≤ 400)) := rfl
    rw [e, wvD]
    show ((true && ((false && true) && _)) && _) = false
    simp
  · have hl : ((List.replicate (2 : Int).toNat (txts sc ++ [D.str "a"])).flatten).length = 2 * sc.length + 2 := by
      show ((List.replicate 2 (txts sc ++ [D.str "a"])).flatten).length = _
      simp [txts, List.replicate_succ]
      omega
    constructor
    · have hm : ∀ x ∈ (List.replicate (2 : Int).toNat (txts sc ++ [D.str "a"])).flatten, cl 2 x = true := fun x hx => by
        obtain ⟨l, h1, h2⟩ := List.mem_flatten.mp hx
        rw [(List.mem_replicate.mp h1).2] at h2
        rcases List.mem_append.mp h2 with h2 | h2
        · obtain ⟨u, hu, rfl⟩ := List.mem_map.mp h2
          exact name_cl (hsc u hu) 2
        · rw [List.mem_singleton.mp h2]
          decide +kernel
      generalize (List.replicate (2 : Int).toNat (txts sc ++ [D.str "a"])).flatten = l at hl hm
      have h1 : cl 3 (.tup l) = true := by
        rw [cl, Bool.and_eq_true, decide_eq_true_eq, List.all_eq_true]
        exact ⟨by omega, hm⟩
      have h2 : cl 3 (.str "letter") = true := by decide +kernel
      show (decide (2 ≤ 100000) && (cl 3 (.str "letter") && (cl 3 (.tup l) && true))) = true
      rw [h1, h2]
      rfl
    · refine kn ?_
      show (true && letterD sc (.tup _)) = false
      rw [letter_tup, decide_eq_false (by rw [hl]; omega), Bool.false_and, Bool.false_and, Bool.and_false]
  · exact ⟨by decide +kernel, kn rfl⟩
def spBad : Prm := fun xs O Pv => ∃ d s sc, xs = [.o d, .d (.tup (txts sc))] ∧ O = dOwn d s ∧ s.Ok ∧ s.turn ≤ 2 ^ 40 ∧ sc.length ≤ 3 ∧ ∀ y s', y ∈ badL sc → Dr.Ok s' → s'.turn ≤ s.turn + 1 → Pv (.d y) (dOwn d s')
theorem ok_bad {k : Nat} (X : Txt K mg base a) : FnOk P w K mg base CX0 (k + 4) a.f_law_bad_weave a.d_law_bad_weave ["draw", "scope"] (spOf K (T a) spBad) := by
  have G_law_pick := ok_pick (P := P) (w := w) (k := k) X
  refine FunT.ok (k := k + 3) X.F_law_bad_weave sc_law_bad_weave ?_ fun A outer s H E hr => ⟨_, (pss_cons (ps_set (i := 2) sc_law_bad_weave.nd rfl (by first | exact .inl rfl | exact .inr rfl) (pe_tup (pa_cons pe_str (pa_cons (pe_tup pa_nil) pa_nil)))) (pss_cons (ps_set (i := 3) sc_law_bad_weave.nd rfl (by first | exact .inl rfl | exact .inr rfl) (pe_lst (pa_cons pe_non (pa_cons pe_int (pa_cons pe_str (pa_cons (pe_tup pa_nil) (pa_cons (pe_tup (pa_cons pe_str (pa_cons pe_int pa_nil))) (pa_cons (pe_lst (pa_cons pe_str pa_nil)) (pa_cons (pe_tup (pa_cons pe_str pa_nil)) (pa_cons (pe_tup (pa_cons pe_str (pa_cons pe_str pa_nil))) (pa_cons (pe_tup (pa_cons pe_str (pa_cons (pe_tup (pa_cons pe_str pa_nil)) pa_nil))) (pa_cons (pe_tup (pa_cons pe_str (pa_cons (pv 2) pa_nil))) (pa_cons (pe_tup (pa_cons pe_str (pa_cons (pv 2) (pa_cons (pv 2) pa_nil)))) pa_nil))))))))))))) (pss_one (ps_ret (pe_call (G_law_pick) (hr.mono (by omega)) (by rfl) X.g_law_pick X.F_law_pick.kp X.b_law_pick .nil pass0 (pa_cons (pv 0) (pa_cons (pe_op (op_addAK (K := K) rfl) (pv 3) (pe_lst (pa_cons (pe_tup (pa_cons pe_str (pa_cons (pe_tup pa_nil) pa_nil))) (pa_cons (pe_tup (pa_cons pe_str (pa_cons (pe_lst (pa_cons (pv 2) pa_nil)) pa_nil))) (pa_cons (pe_tup (pa_cons pe_str (pa_cons (pe_tup (pa_cons (pv 2) (pa_cons (pv 2) pa_nil))) pa_nil))) (pa_cons (pe_tup (pa_cons pe_str (pa_cons pe_non pa_nil))) (pa_cons (pe_tup (pa_cons pe_str (pa_cons (pe_op (op_repTK (K := K) rfl) (pe_op (op_addAK (K := K) rfl) (pv 1) (pe_tup (pa_cons pe_str pa_nil))) pe_int) pa_nil))) (pa_cons (pe_tup (pa_cons pe_str (pa_cons (pv 2) pa_nil))) pa_nil)))))))) pa_nil))))))), ?_⟩
  · rintro xs O Pv ⟨d, s, sc, rfl, _⟩
    rfl
  · rintro xs O Pv ⟨d, s, sc, rfl, rfl, ok, ht, h3, p⟩
    have hsl : (txts sc).length = sc.length := by simp [txts]
    repeat (first | contradiction | refine re_tupD ?_ | refine re_lstD ?_ | refine ⟨rfl, ?_⟩)
    refine re_callF ?_
    repeat (first | contradiction | refine re_tupD ?_ | refine re_lstD ?_ | refine ⟨rfl, ?_⟩)
    refine rr_addT (Nat.le_of_lt (small1000 (by rw [hsl]; simp; omega))) ?_
    repeat (first | contradiction | refine re_tupD ?_ | refine re_lstD ?_ | refine ⟨rfl, ?_⟩)
    refine rr_repT (by simp) (by decide) (by decide) (by rw [List.length_append, hsl]; simp; omega) ?_
    repeat (first | contradiction | refine re_tupD ?_ | refine re_lstD ?_ | refine ⟨rfl, ?_⟩)
    refine rr_addL (show 17 ≤ sizeLine by decide) ?_
    refine ra_nil ?_
    refine ⟨dOwn d s, [], .refl _, d, s, _, badL sc, rfl, rfl, (show 0 < 17 by decide), (show 17 ≤ 100000 by decide), rfl, ok, ht, fun y s' hy ok' ht' => ?_⟩
    show Pv (.d y) (dOwn d s' ++ [])
    rw [List.append_nil]
    exact p y s' hy ok' ht'
end K0
end
section
set_option Elab.async false
set_option linter.all false
set_option maxRecDepth 100000
set_option maxHeartbeats 4000000
namespace Al
open PySem PySem.Spec PyProof.Rows L2
variable {K : PySem.W.Frag} {T : List Addr}
theorem rs_cut {t u : TS} {ρ : Rho} {O : Own} {P : Po} (mid : Rho → Own → Prop) (h1 : RunS K T t ρ O { P with nx := mid }) (h2 : ∀ ρ' O', mid ρ' O' → RunS K T u ρ' O' P) : RunS K T (tSeq t u) ρ O P := fun F H Ξ σ w e D d =>
  h1 F H Ξ σ w e _ ⟨fun ρ' O' F' H' σ' e1 w1 v1 q => h2 ρ' O' q F' H' Ξ σ' w1 v1 D (d.mono e1), d.rt, d.bk, d.ct⟩
end Al
namespace K0
open PySem PySem.Spec PyProof.Rows L2 Al RT
variable {P : Program} {w : World} {K : PySem.W.Frag} {mg : Str → Option Value} {base : Heap} {a : Ad}
local macro_rules
  | `(tactic| contradiction) => `(tactic| first
    | with_reducible refine rs_seq ?_ | with_reducible refine rs_if ?_ | with_reducible refine rs_ret ?_ | with_reducible refine rt_and ?_ | with_reducible refine rt_or ?_ | with_reducible refine rt_not ?_ | with_reducible refine rt_test ?_ | with_reducible refine rt_B ?_ | with_reducible refine rs_asg ?_ | with_reducible refine rs_par ?_
    | with_reducible refine re_cb ?_ | with_reducible refine re_op ?_ | with_reducible refine re_if ?_ | with_reducible refine re_un ?_ | with_reducible refine ra_cons ?_ | with_reducible refine ra_nil ?_ | with_reducible refine re_int ?_ | with_reducible refine re_str ?_ | with_reducible refine re_bl ?_ | with_reducible refine re_non ?_ | with_reducible refine re_ty ?_ 
    | ((with_reducible apply re_var); exact rfl; exact (fun z => by cases z)) | with_reducible refine rr_b ?_ | with_reducible refine rr_i ?_ | with_reducible refine ru_i ?_
    | with_reducible refine rc_isi rfl (by first | exact (show kitB _ _ = some true by decide +kernel) | exact (show kitB _ _ = some false by decide +kernel)) ?_
    | with_reducible refine rc_len rfl ?_ | with_reducible refine rr_ix rfl atI_0 ?_ | with_reducible refine rr_ix rfl atI_1 ?_
    | with_reducible refine rr_eqF rfl ?_ | with_reducible refine rr_neF rfl ?_ | with_reducible refine rr_addI ?_ | with_reducible refine rc_abs ?_ | with_reducible refine rc_int ?_ | with_reducible refine rc_min ?_
    | refine ⟨_, rfl, ?_⟩ | rw [if_pos rfl] | rw [if_neg Bool.false_ne_true] | with_reducible refine rs_next ?_ | (with_reducible refine ift ?_ ?_; focus (simp; done)) | (with_reducible refine iff' ?_ ?_; focus (simp; done)) | dsimp only)
/-! ### what the law's own rows need -/
theorem ne_int (i : Int) : (!eqD (.int i) (.int i)) = false := by simp [eqD]
theorem ne_str (u : Str) : (!eqD (.str u) (.str u)) = false := by simp [eqD]
theorem ne_self {x : D} (h : stD x = true) : (!eqD x x) = false := by rw [eq_refl x h]; rfl
theorem in_mem {x : D} : ∀ {l : List D}, (∀ y ∈ l, stD y = true) → (inP x l = true ↔ x ∈ l)
  | [], _ => ⟨fun h => Bool.noConfusion h, fun h => absurd h List.not_mem_nil⟩
  | y :: l, h => by
    have ih := in_mem (x := x) fun z hz => h z (.tail _ hz)
    unfold inP at ih ⊢
    rw [List.any_cons, Bool.or_eq_true, ih, List.mem_cons]
    constructor
    · rintro (e | e)
      · exact .inl (eq_st y x (h y (.head _)) e).symm
      · exact .inr e
    · rintro (rfl | e)
      · exact .inl (eq_refl x (h x (.head _)))
      · exact .inr e
theorem due_eq {sc : List Str} (hsc : ∀ u ∈ sc, nameS u = true) {n : Nat} {d : D} (h : wvD sc n d = true) (l : List D) : l.filter (fun x => inP (ltr x) (subW n d)) = l.filter fun x => inP x (letW n d) := by
  refine List.filter_congr fun x _ => ?_
  rw [Bool.eq_iff_iff, in_mem fun y hy => ?_, in_mem fun y hy => ?_]
  · exact (let_sub n d h x).symm
  · exact (letter_tree hsc ((let_letters n d h).1 y hy)).2
  · obtain ⟨k, _, hk, _⟩ := sub_wv n d h y hy
    exact wv_st k y hk
theorem some_inj {l m : List D} (h : l.map some = m.map some) : l = m := by
  have := congrArg (List.filterMap id) h
  simpa using this
theorem len_small : ∀ c : Option Nat, (∀ k, c = some k → k ≤ 200) → [oD c, oD c].all smallD = true ∧ (listText ([oD c, oD c].map txD)).length ≤ sizeLine := by
  have key : ((List.range 201).all fun k => [oD (some k), oD (some k)].all smallD && decide ((listText ([oD (some k), oD (some k)].map txD)).length ≤ sizeLine)) = true := by decide +kernel
  intro c h
  cases c with
  | none => exact ⟨rfl, by decide +kernel⟩
  | some k =>
    have := List.all_eq_true.mp key k (List.mem_range.mpr (by have := h k rfl; omega))
    rw [Bool.and_eq_true, decide_eq_true_eq] at this
    exact this
theorem tup_tree {l : List D} {n : Nat} (h : ∀ x ∈ l, Al.plain n x = true ∧ stD x = true) : Al.plain (n + 1) (.tup l) = true ∧ stD (.tup l) = true := by
  rw [Al.plain, stD]
  exact ⟨plainL_of fun x hx => (h x hx).1, stL_all fun x hx => (h x hx).2⟩
theorem wv_tree2 {sc : List Str} {n : Nat} {d : D} (h : WOk sc n d) : Al.plain 60 d = true ∧ stD d = true := by
  obtain ⟨h1, h2, _⟩ := h.isw
  have := h.n30
  exact ⟨plain_mono (wv_plain n _ d h.wv h1) (by omega), wv_st n d h.wv⟩
/-! ### the law -/
theorem kb_size (X : Txt K mg base a) : KBinds K a.d_size ["scope", "weave"] ["weave", "scope"] gR0 gR0 := kbinds X.F_size (by decide) fun _ _ _ _ _ _ ws hl => match ws, hl with | [_, _], _ => rfl
theorem kb_letters_in (X : Txt K mg base a) : KBinds K a.d_letters_in ["scope", "weave"] ["weave", "scope"] gR0 gR0 := kbinds X.F_letters_in (by decide) fun _ _ _ _ _ _ ws hl => match ws, hl with | [_, _], _ => rfl
theorem kb_length (X : Txt K mg base a) : KBinds K a.d_length ["scope", "weave"] ["weave", "scope"] gR0 gR0 := kbinds X.F_length (by decide) fun _ _ _ _ _ _ ws hl => match ws, hl with | [_, _], _ => rfl
theorem kb_spelled (X : Txt K mg base a) : KBinds K a.d_spelled ["scope", "weave"] ["weave", "scope"] gR0 gR0 := kbinds X.F_spelled (by decide) fun _ _ _ _ _ _ ws hl => match ws, hl with | [_, _], _ => rfl
theorem kb_written (X : Txt K mg base a) : KBinds K a.d_written ["scope", "row"] ["row", "scope"] gR0 gR0 := kbinds X.F_written (by decide) fun _ _ _ _ _ _ ws hl => match ws, hl with | [_, _], _ => rfl
def qLaw : Str := (envOfC "law" (defScope s_law) 0 0 .none).qual ++ "<lambda>"
def spLaw (pl : Addr) : Prm := fun xs O Pv => ∃ ns : List Int, xs = [.d (.scr (ns.map .int))] ∧ ns.length ≤ 63 ∧ (∀ z ∈ ns, Builtin.Int.intBits z ≤ 1048576) ∧ O = [(pl, .tb qLaw)] ∧ ∀ O', Pv (.d (.bl true)) O'
theorem ok_law {pl : Addr} (X : Txt K mg base a) (hk : ∀ F, Rp K F (.tup (txts kept)) (.ref a.o_KEPT)) (hS : KInts K w a.o_SHAPES shapes)
    (E_BadScope : ClsF K a.C_BadScope a.C_OrderError) (kit_BadScope : PySem.W.kitOne K (.ref a.C_BadScope) (.ref a.C_BadScope) = some true)
    (E_BadWeave : ClsF K a.C_BadWeave a.C_OrderError) (kit_BadWeave : PySem.W.kitOne K (.ref a.C_BadWeave) (.ref a.C_BadWeave) = some true)
    (E_NotFinite : ClsF K a.C_NotFinite a.C_OrderError) (kit_NotFinite : PySem.W.kitOne K (.ref a.C_NotFinite) (.ref a.C_NotFinite) = some true)
    (E_BadLetters : ClsF K a.C_BadLetters a.C_OrderError) (kit_BadLetters : PySem.W.kitOne K (.ref a.C_BadLetters) (.ref a.C_BadLetters) = some true)
    (B_law : LamX.TabB base mg a.c_law pl) : FnG P w K mg base a.f_law a.d_law ["script"] (spOf K (T a) (spLaw pl)) := by
  have G_law_begun := ok_begun (P := P) (w := w) (k := 20) X
  have G_law_scope := ok_lscope (P := P) (w := w) (k := 20) X
  have G_law_weave := ok_wv (P := P) (w := w) (k := 20) X 13
  have G_law_take := ok_take (P := P) (w := w) (k := 20) X
  have G_law_pick := ok_pick (P := P) (w := w) (k := 20) X
  have G_law_letters := ok_lawlet (P := P) (w := w) (k := 20) X
  have G_law_told := ok_told (P := P) (w := w) (k := 20) X 14
  have G_law_nodes := ok_nds (P := P) (w := w) (k := 20) X 14
  have G_law_at := ok_at (P := P) (w := w) (k := 20) X
  have G_law_bad_weave := ok_bad (P := P) (w := w) (k := 20) X
  have G_need_weave := ok_nw (P := P) (w := w) (k := 20) X hk hS E_BadScope E_BadWeave
  have GX1 := okx_nw1 (P := P) (w := w) (k := 20) X hk hS E_BadScope E_BadWeave
  have GX2 := okx_nw2 (P := P) (w := w) (k := 20) X hk hS E_BadScope E_BadWeave
  have G_size := ok_size (P := P) (w := w) (k := 20) X G_need_weave
  have G_letters_in := ok_lin (P := P) (w := w) (k := 20) X G_need_weave
  have G_length := ok_length (P := P) (w := w) (k := 20) X G_need_weave
  have G_spelled := ok_spelled (P := P) (w := w) (k := 20) X E_NotFinite G_need_weave
  have GX_spelled := okx_spelledN (P := P) (w := w) (k := 20) X E_NotFinite G_need_weave
  have G_written := ok_written (P := P) (w := w) (k := 20) X hk E_BadScope E_BadLetters
  have GX_written_BadScope := okx_written1 (P := P) (w := w) (k := 20) X hk E_BadScope E_BadLetters
  have GX_written_BadLetters := okx_written2 (P := P) (w := w) (k := 20) X hk E_BadScope E_BadLetters
  have held : ∀ {C : Addr} {R : D → D → Prop}, FnOk P w K mg base (L2.CX P w) (20 + 75) a.f_need_weave a.d_need_weave ["scope", "weave"] (spRaise K (T a) C (sx2 R)) → ∀ f ∈ [a.f_size, a.f_letters_in, a.f_length, a.f_spelled], HeldX P w K mg base (L2.CX P w) 180 f (spRaise K (T a) C (sx2 R)) := by
    intro C R GX f hf
    simp only [List.mem_cons, List.not_mem_nil, or_false] at hf
    rcases hf with rfl | rfl | rfl | rfl
    · exact ⟨_, _, (okx_size (P := P) (w := w) (k := 20) X GX), X.F_size.kp, X.b_size⟩
    · exact ⟨_, _, (okx_lin (P := P) (w := w) (k := 20) X GX), X.F_letters_in.kp, X.b_letters_in⟩
    · exact ⟨_, _, (okx_length (P := P) (w := w) (k := 20) X GX), X.F_length.kp, X.b_length⟩
    · exact ⟨_, _, (okx_spelled (P := P) (w := w) (k := 20) X E_NotFinite GX), X.F_spelled.kp, X.b_spelled⟩
  have GH_BadScope := held GX1
  have GH_BadWeave := held GX2
  obtain ⟨oc, od, kV, doc, pm, an, ct, osl, ed, lk_caught, cg_caught⟩ := X.F_law_caught.ex
  have bi_caught := X.b_law_caught
  rw [ed] at lk_caught bi_caught
  refine FunT.okG (k := 199) ⟨rfl, by decide, by decide⟩ X.F_law sc_law ?_ fun s H E hr => ⟨_, (pss_cons (ps_set (i := 1) sc_law.nd rfl (by first | exact .inl rfl | exact .inr rfl) (pe_call (G_law_begun) (hr.mono (by omega)) (by rfl) X.g_law_begun X.F_law_begun.kp X.b_law_begun .nil pass0 (pa_cons (pv 0) pa_nil))) (pss_cons (ps_for PassesOwn.never rfl (pi_range1 (by rfl) X.m_range (pa_cons (pe_op (op_addAK (K := K) rfl) pe_int (pe_callB (call_min2 rfl) (by rfl) X.m_min (by decide +kernel) (pa_cons (pe_callB (call_lenK (K := K) rfl) (by rfl) X.m_len (by decide +kernel) (pa_cons (pv 0) pa_nil)) (pa_cons pe_int pa_nil)))) pa_nil)) (pg_name (i := 2) sc_law.nd rfl (by first | exact .inl rfl | exact .inr rfl)) (pss_cons (ps_set (i := 3) sc_law.nd rfl (by first | exact .inl rfl | exact .inr rfl) (pe_call (G_law_scope) (hr.mono (by omega)) (by rfl) X.g_law_scope X.F_law_scope.kp X.b_law_scope .nil pass0 (pa_cons (pv 1) (pa_cons pe_int pa_nil)))) (pss_cons (ps_set (i := 4) sc_law.nd rfl (by first | exact .inl rfl | exact .inr rfl) (pe_call (G_law_weave) (hr.mono (by omega)) (by rfl) X.g_law_weave X.F_law_weave.kp X.b_law_weave .nil pass0 (pa_cons (pv 1) (pa_cons (pv 3) (pa_cons (pe_lst (pa_cons (pe_op (op_addAK (K := K) rfl) pe_int (pe_call (G_law_take) (hr.mono (by omega)) (by rfl) X.g_law_take X.F_law_take.kp X.b_law_take .nil pass0 (pa_cons (pv 1) (pa_cons pe_int pa_nil)))) pa_nil)) pa_nil))))) (pss_cons (ps_asg (pe_tup (pa_cons (pe_call (G_law_told) (hr.mono (by omega)) (by rfl) X.g_law_told X.F_law_told.kp X.b_law_told .nil pass0 (pa_cons (pv 4) pa_nil)) (pa_cons (pe_lc (own := [("path", 7)]) rfl sc_law.nd (Al.pi_seqK (K := K) rfl (pe_call (G_law_nodes) (hr.mono (by omega)) (by rfl) X.g_law_nodes X.F_law_nodes.kp X.b_law_nodes .nil pass0 (pa_cons (pv 4) pa_nil))) (blkOk_by (own := [("path", 7)]) (N := ["script", "draw", "turn", "scope", "weave", "told", "borne", "path", "due", "x", "many", "row", "k", "line", "bad", "off", "work", "odd"]) (sc := defScope s_law) (by decide +kernel)) (fun _ _ _ _ _ => (pg_name (i := 7) sc_law.nd rfl (by first | exact .inl rfl | exact .inr rfl))) (fun _ _ _ _ _ => pts_nil) (fun _ _ _ _ _ => (pe_call (G_law_at) (hr.mono (by omega)) (by rfl) X.g_law_at X.F_law_at.kp X.b_law_at .nil pass0 (pa_cons (pv 4) (pa_cons (pv 7) pa_nil))))) pa_nil))) (pg_tupK (K := K) (n := 2) rfl rfl (pgs_cons (pg_name (i := 5) sc_law.nd rfl (by first | exact .inl rfl | exact .inr rfl)) (pgs_cons (pg_name (i := 6) sc_law.nd rfl (by first | exact .inl rfl | exact .inr rfl)) pgs_nil)))) (pss_cons (ps_if (PW.pt (pw_or (pt_cmpR (op_neAK (K := K) rfl (Al.room_u hr)) (pe_call (G_size) (hr.mono (by omega)) (by rfl) X.g_size X.F_size.kp X.b_size .nil pass0 (pa_cons (pv 3) (pa_cons (pv 4) pa_nil))) (pe_callB (call_lenK (K := K) rfl) (by rfl) X.m_len (by decide +kernel) (pa_cons (pv 6) pa_nil)) (nomark _)) (pw_or1 (pt_cmpR (op_neAK (K := K) rfl (Al.room_u hr)) (pe_callK0 (G_size) (hr.mono (by omega)) (by rfl) X.g_size X.F_size.kp (kb_size X) pass0 (pk_cons (pv 4) (pk_cons (pv 3) pk_nil))) (pe_callB (call_lenK (K := K) rfl) (by rfl) X.m_len (by decide +kernel) (pa_cons (pv 6) pa_nil)) (nomark _))))) (pss_one (ps_ret pe_bl)) pss_nil) (pss_cons (ps_set (i := 8) sc_law.nd rfl (by first | exact .inl rfl | exact .inr rfl) (pe_callTy (call_tupleK (K := K) rfl) (by rfl) X.m_tuple (by decide +kernel) (pa_cons (pe_lc (own := [("x", 9)]) rfl sc_law.nd (Al.pi_seqK (K := K) rfl (pe_call (G_law_letters) (hr.mono (by omega)) (by rfl) X.g_law_letters X.F_law_letters.kp X.b_law_letters .nil pass0 (pa_cons (pv 3) pa_nil))) (blkOk_by (own := [("x", 9)]) (N := ["script", "draw", "turn", "scope", "weave", "told", "borne", "path", "due", "x", "many", "row", "k", "line", "bad", "off", "work", "odd"]) (sc := defScope s_law) (by decide +kernel)) (fun _ _ _ _ _ => (pg_name (i := 9) sc_law.nd rfl (by first | exact .inl rfl | exact .inr rfl))) (fun _ _ _ _ _ => (pts_one (pt_cmpR (op_inDK (K := K) rfl (Al.room_u65 hr)) (pe_tup (pa_cons pe_str (pa_cons (pv 9) pa_nil))) (pv 6) (by rfl)))) (fun _ _ _ _ _ => (pv 9))) pa_nil))) (pss_cons (ps_if (PW.pt (pw_or (pt_cmpR (op_neAK (K := K) rfl (Al.room_u hr)) (pe_call (G_letters_in) (hr.mono (by omega)) (by rfl) X.g_letters_in X.F_letters_in.kp X.b_letters_in .nil pass0 (pa_cons (pv 3) (pa_cons (pv 4) pa_nil))) (pv 8) (nomark _)) (pw_or1 (pt_cmpR (op_neAK (K := K) rfl (Al.room_u hr)) (pe_callK0 (G_letters_in) (hr.mono (by omega)) (by rfl) X.g_letters_in X.F_letters_in.kp (kb_letters_in X) pass0 (pk_cons (pv 4) (pk_cons (pv 3) pk_nil))) (pv 8) (nomark _))))) (pss_one (ps_ret pe_bl)) pss_nil) (pss_cons (ps_set (i := 10) sc_law.nd rfl (by first | exact .inl rfl | exact .inr rfl) (pe_ifExp (pt_cmpR op_isN (pv 5) pe_non (nomark _)) pe_non (pe_callB (call_lenK (K := K) rfl) (by rfl) X.m_len (by decide +kernel) (pa_cons (pv 5) pa_nil)))) (pss_cons (ps_if (pt_cmpR (op_neAK (K := K) rfl (Al.room_u hr)) (pe_callB (call_reprLK (K := K) rfl rfl (Al.room_u1 hr)) (by rfl) X.m_repr (by decide +kernel) (pa_cons (pe_lst (pa_cons (pe_call (G_length) (hr.mono (by omega)) (by rfl) X.g_length X.F_length.kp X.b_length .nil pass0 (pa_cons (pv 3) (pa_cons (pv 4) pa_nil))) (pa_cons (pe_callK0 (G_length) (hr.mono (by omega)) (by rfl) X.g_length X.F_length.kp (kb_length X) pass0 (pk_cons (pv 4) (pk_cons (pv 3) pk_nil))) pa_nil))) pa_nil)) (pe_callB (call_reprLK (K := K) rfl rfl (Al.room_u1 hr)) (by rfl) X.m_repr (by decide +kernel) (pa_cons (pe_lst (pa_cons (pv 10) (pa_cons (pv 10) pa_nil))) pa_nil)) (nomark _)) (pss_one (ps_ret pe_bl)) pss_nil) (pss_cons (ps_if (pt_cmpR op_isN (pv 5) pe_non (nomark _)) (pss_one (ps_if (pt_not (pt_val (pe_callB (call_isXK (K := K) rfl E_NotFinite.iP kit_NotFinite) (by rfl) X.m_isinstance (by decide +kernel) (pa_cons (pe_lamE (by rfl) X.g_law_caught X.F_law_caught.kp lk_caught cg_caught bi_caught sc_law_caught (by rfl) (by first | exact .inl rfl | exact .inr rfl) (caught_gives (C := a.C_NotFinite) (by rfl) X.g_OrderError (by decide) sc_law_caught (by rfl) (by rfl) E_NotFinite.eP) B_law (by rfl) (k := 197) hr (LamX.lamS_by (show LamX.lamSB (defScope s_law) _ = true from by decide +kernel)) (by rfl) (fun _ _ _ _ _ => by rfl) (fun A outer s H E f k hrL => (pe_callS (E := fun _ => E) GX_spelled (hrL.mono (by omega)) (by rfl) X.g_spelled X.F_spelled.kp X.b_spelled (fun σ => passAt (takes_of rfl rfl rfl rfl) σ) (pa_cons (pv 3) (pa_cons (pv 4) pa_nil))))) (pa_cons (pe_globR (by rfl) X.g_NotFinite) pa_nil))))) (pss_one (ps_ret pe_bl)) pss_nil)) (pss_one (ps_if (PW.pt (pw_or (pt_cmpR (op_neAK (K := K) rfl (Al.room_u hr)) (pe_call (G_spelled) (hr.mono (by omega)) (by rfl) X.g_spelled X.F_spelled.kp X.b_spelled .nil pass0 (pa_cons (pv 3) (pa_cons (pv 4) pa_nil))) (pv 5) (nomark _)) (pw_or1 (pt_cmpR (op_neAK (K := K) rfl (Al.room_u hr)) (pe_callK0 (G_spelled) (hr.mono (by omega)) (by rfl) X.g_spelled X.F_spelled.kp (kb_spelled X) pass0 (pk_cons (pv 4) (pk_cons (pv 3) pk_nil))) (pv 5) (nomark _))))) (pss_one (ps_ret pe_bl)) pss_nil))) (pss_cons (ps_set (i := 11) sc_law.nd rfl (by first | exact .inl rfl | exact .inr rfl) (pe_callTy (call_tupleK (K := K) rfl) (by rfl) X.m_tuple (by decide +kernel) (pa_cons (pe_lc (own := [("k", 12)]) rfl sc_law.nd (pi_range1 (by rfl) X.m_range (pa_cons (pe_call (G_law_take) (hr.mono (by omega)) (by rfl) X.g_law_take X.F_law_take.kp X.b_law_take .nil pass0 (pa_cons (pv 1) (pa_cons pe_int pa_nil))) pa_nil)) (blkOk_by (own := [("k", 12)]) (N := ["script", "draw", "turn", "scope", "weave", "told", "borne", "path", "due", "x", "many", "row", "k", "line", "bad", "off", "work", "odd"]) (sc := defScope s_law) (by decide +kernel)) (fun _ _ _ _ _ => (pg_name (i := 12) sc_law.nd rfl (by first | exact .inl rfl | exact .inr rfl))) (fun _ _ _ _ _ => pts_nil) (fun _ _ _ _ _ => (pe_call (G_law_pick) (hr.mono (by omega)) (by rfl) X.g_law_pick X.F_law_pick.kp X.b_law_pick .nil pass0 (pa_cons (pv 1) (pa_cons (pe_call (G_law_letters) (hr.mono (by omega)) (by rfl) X.g_law_letters X.F_law_letters.kp X.b_law_letters .nil pass0 (pa_cons (pv 3) pa_nil)) pa_nil))))) pa_nil))) (pss_cons (ps_set (i := 13) sc_law.nd rfl (by first | exact .inl rfl | exact .inr rfl) (pe_ifExp (pt_cmpR (op_eqAK (K := K) rfl (Al.room_u hr)) (pv 11) (pe_tup pa_nil) (nomark _)) (pe_tup (pa_cons pe_str pa_nil)) (pe_tup (pa_cons pe_str (pa_cons (pe_ix (ix_seqK (K := K) rfl) (pv 11) (pe_un un_neg pe_int) (fun _ _ => rfl)) pa_nil))))) (pss_cons (ps_for PassesOwn.never rfl (Al.pi_seqK (K := K) rfl (pe_cutT (K := K) rfl (pv 11))) (pg_name (i := 9) sc_law.nd rfl (by first | exact .inl rfl | exact .inr rfl)) (pss_one (ps_set (i := 13) sc_law.nd rfl (by first | exact .inl rfl | exact .inr rfl) (pe_tup (pa_cons pe_str (pa_cons (pe_tup (pa_cons pe_str (pa_cons (pv 9) pa_nil))) (pa_cons (pv 13) pa_nil))))))) (pss_cons (ps_if (PW.pt (pw_or (pt_cmpR (op_neAK (K := K) rfl (Al.room_u hr)) (pe_call (G_written) (hr.mono (by omega)) (by rfl) X.g_written X.F_written.kp X.b_written .nil pass0 (pa_cons (pv 3) (pa_cons (pv 11) pa_nil))) (pv 13) (nomark _)) (pw_or (pt_cmpR (op_neAK (K := K) rfl (Al.room_u hr)) (pe_callK0 (G_written) (hr.mono (by omega)) (by rfl) X.g_written X.F_written.kp (kb_written X) pass0 (pk_cons (pv 11) (pk_cons (pv 3) pk_nil))) (pv 13) (nomark _)) (pw_or1 (pt_cmpR (op_neAK (K := K) rfl (Al.room_u hr)) (pe_call (G_spelled) (hr.mono (by omega)) (by rfl) X.g_spelled X.F_spelled.kp X.b_spelled .nil pass0 (pa_cons (pv 3) (pa_cons (pe_call (G_written) (hr.mono (by omega)) (by rfl) X.g_written X.F_written.kp X.b_written .nil pass0 (pa_cons (pv 3) (pa_cons (pv 11) pa_nil))) pa_nil))) (pv 11) (nomark _)))))) (pss_one (ps_ret pe_bl)) pss_nil) (pss_cons (ps_asg (pe_tup (pa_cons (pe_call (G_law_bad_weave) (hr.mono (by omega)) (by rfl) X.g_law_bad_weave X.F_law_bad_weave.kp X.b_law_bad_weave .nil pass0 (pa_cons (pv 1) (pa_cons (pv 3) pa_nil))) (pa_cons (pe_call (G_law_pick) (hr.mono (by omega)) (by rfl) X.g_law_pick X.F_law_pick.kp X.b_law_pick .nil pass0 (pa_cons (pv 1) (pa_cons (pe_lst (pa_cons pe_non (pa_cons (pe_lst (pa_cons pe_str pa_nil)) (pa_cons (pe_tup (pa_cons pe_str (pa_cons pe_str pa_nil))) (pa_cons (pe_tup (pa_cons pe_str (pa_cons pe_str (pa_cons pe_str (pa_cons pe_str pa_nil))))) (pa_cons (pe_tup (pa_cons pe_str pa_nil)) (pa_cons pe_str (pa_cons (pe_tup (pa_cons pe_int pa_nil)) pa_nil)))))))) pa_nil))) pa_nil))) (pg_tupK (K := K) (n := 2) rfl rfl (pgs_cons (pg_name (i := 14) sc_law.nd rfl (by first | exact .inl rfl | exact .inr rfl)) (pgs_cons (pg_name (i := 15) sc_law.nd rfl (by first | exact .inl rfl | exact .inr rfl)) pgs_nil)))) (pss_cons (ps_for PassesOwn.never rfl (Al.pi_seqK (K := K) rfl (pe_lst (pa_cons (pe_globR (by rfl) X.g_size) (pa_cons (pe_globR (by rfl) X.g_letters_in) (pa_cons (pe_globR (by rfl) X.g_length) (pa_cons (pe_globR (by rfl) X.g_spelled) pa_nil)))))) (pg_name (i := 16) sc_law.nd rfl (by first | exact .inl rfl | exact .inr rfl)) (pss_cons (ps_if (pt_not (pt_val (pe_callB (call_isXK (K := K) rfl E_BadScope.iP kit_BadScope) (by rfl) X.m_isinstance (by decide +kernel) (pa_cons (pe_lamE (by rfl) X.g_law_caught X.F_law_caught.kp lk_caught cg_caught bi_caught sc_law_caught (by rfl) (by first | exact .inl rfl | exact .inr rfl) (caught_gives (C := a.C_BadScope) (by rfl) X.g_OrderError (by decide) sc_law_caught (by rfl) (by rfl) E_BadScope.eP) B_law (by rfl) (k := 197) hr (LamX.lamS_by (show LamX.lamSB (defScope s_law) _ = true from by decide +kernel)) (by rfl) (fun _ _ _ _ _ => by rfl) (fun A outer s H E f k hrL => (Al.pe_callH' (i := 16) (E := fun _ => E) GH_BadScope (hrL.mono (by omega)) rfl (by first | exact .inl rfl | exact .inr (.inl rfl) | exact .inr (.inr rfl)) (fun σ => passAt (takes_of rfl rfl rfl rfl) σ) (pa_cons (pv 15) (pa_cons (pv 14) pa_nil))))) (pa_cons (pe_globR (by rfl) X.g_BadScope) pa_nil))))) (pss_one (ps_ret pe_bl)) pss_nil) (pss_one (ps_if (pt_not (pt_val (pe_callB (call_isXK (K := K) rfl E_BadWeave.iP kit_BadWeave) (by rfl) X.m_isinstance (by decide +kernel) (pa_cons (pe_lamE (by rfl) X.g_law_caught X.F_law_caught.kp lk_caught cg_caught bi_caught sc_law_caught (by rfl) (by first | exact .inl rfl | exact .inr rfl) (caught_gives (C := a.C_BadWeave) (by rfl) X.g_OrderError (by decide) sc_law_caught (by rfl) (by rfl) E_BadWeave.eP) B_law (by rfl) (k := 197) hr (LamX.lamS_by (show LamX.lamSB (defScope s_law) _ = true from by decide +kernel)) (by rfl) (fun _ _ _ _ _ => by rfl) (fun A outer s H E f k hrL => (Al.pe_callH' (i := 16) (E := fun _ => E) GH_BadWeave (hrL.mono (by omega)) rfl (by first | exact .inl rfl | exact .inr (.inl rfl) | exact .inr (.inr rfl)) (fun σ => passAt (takes_of rfl rfl rfl rfl) σ) (pa_cons (pv 3) (pa_cons (pv 14) pa_nil))))) (pa_cons (pe_globR (by rfl) X.g_BadWeave) pa_nil))))) (pss_one (ps_ret pe_bl)) pss_nil)))) (pss_cons (ps_set (i := 17) sc_law.nd rfl (by first | exact .inl rfl | exact .inr rfl) (pe_call (G_law_pick) (hr.mono (by omega)) (by rfl) X.g_law_pick X.F_law_pick.kp X.b_law_pick .nil pass0 (pa_cons (pv 1) (pa_cons (pe_lst (pa_cons pe_non (pa_cons pe_int (pa_cons (pe_lst (pa_cons (pe_tup pa_nil) pa_nil)) (pa_cons pe_str (pa_cons (pe_tup (pa_cons pe_int pa_nil)) (pa_cons (pe_tup (pa_cons (pe_tup (pa_cons pe_str pa_nil)) pa_nil)) (pa_cons (pe_op (op_repTK (K := K) rfl) (pe_tup (pa_cons (pe_tup pa_nil) pa_nil)) pe_int) (pa_cons (pe_tup (pa_cons pe_str pa_nil)) pa_nil))))))))) pa_nil)))) (pss_cons (ps_if (pt_not (pt_val (pe_callB (call_isXK (K := K) rfl E_BadScope.iP kit_BadScope) (by rfl) X.m_isinstance (by decide +kernel) (pa_cons (pe_lamE (by rfl) X.g_law_caught X.F_law_caught.kp lk_caught cg_caught bi_caught sc_law_caught (by rfl) (by first | exact .inl rfl | exact .inr rfl) (caught_gives (C := a.C_BadScope) (by rfl) X.g_OrderError (by decide) sc_law_caught (by rfl) (by rfl) E_BadScope.eP) B_law (by rfl) (k := 197) hr (LamX.lamS_by (show LamX.lamSB (defScope s_law) _ = true from by decide +kernel)) (by rfl) (fun _ _ _ _ _ => by rfl) (fun A outer s H E f k hrL => (pe_callS (E := fun _ => E) GX_written_BadScope (hrL.mono (by omega)) (by rfl) X.g_written X.F_written.kp X.b_written (fun σ => passAt (takes_of rfl rfl rfl rfl) σ) (pa_cons (pv 15) (pa_cons (pv 17) pa_nil))))) (pa_cons (pe_globR (by rfl) X.g_BadScope) pa_nil))))) (pss_one (ps_ret pe_bl)) pss_nil) (pss_one (ps_if (pt_not (pt_val (pe_callB (call_isXK (K := K) rfl E_BadLetters.iP kit_BadLetters) (by rfl) X.m_isinstance (by decide +kernel) (pa_cons (pe_lamE (by rfl) X.g_law_caught X.F_law_caught.kp lk_caught cg_caught bi_caught sc_law_caught (by rfl) (by first | exact .inl rfl | exact .inr rfl) (caught_gives (C := a.C_BadLetters) (by rfl) X.g_OrderError (by decide) sc_law_caught (by rfl) (by rfl) E_BadLetters.eP) B_law (by rfl) (k := 197) hr (LamX.lamS_by (show LamX.lamSB (defScope s_law) _ = true from by decide +kernel)) (by rfl) (fun _ _ _ _ _ => by rfl) (fun A outer s H E f k hrL => (pe_callS (E := fun _ => E) GX_written_BadLetters (hrL.mono (by omega)) (by rfl) X.g_written X.F_written.kp X.b_written (fun σ => passAt (takes_of rfl rfl rfl rfl) σ) (pa_cons (pv 3) (pa_cons (pv 17) pa_nil))))) (pa_cons (pe_globR (by rfl) X.g_BadLetters) pa_nil))))) (pss_one (ps_ret pe_bl)) pss_nil)))))))))))))))))))) (pss_one (ps_ret pe_bl)))), ?_⟩
  · rintro xs O Pv ⟨ns, rfl, _⟩
    rfl
  · rintro xs O Pv ⟨ns, rfl, hl, hb, rfl, pv⟩
    repeat contradiction
    refine re_callF ?_
    repeat contradiction
    refine ⟨[], _, .refl _, ns, rfl, rfl, hl, fun d s0 ok0 t0 => ?_⟩
    repeat contradiction
    refine rs_for (ri_rng1 ?_)
    repeat contradiction
    have hlen : (ns.map D.int).length = ns.length := List.length_map ..
    refine ⟨by omega, by omega, fun (i : Nat) ρ' O' => ∃ s : Dr, O' = dOwn d s ++ [(pl, .tb qLaw)] ∧ s.Ok ∧ s.turn ≤ 300 * i ∧ ∃ x2 x3 x4 x5 x6 x7 x8 x9 x10 x11 x12 x13 x14 x15 x16 x17, ρ' = [.d (.scr (ns.map .int)), .o d, x2, x3, x4, x5, x6, x7, x8, x9, x10, x11, x12, x13, x14, x15, x16, x17], ⟨s0, rfl, ok0, by omega, _, _, _, _, _, _, _, _, _, _, _, _, _, _, _, _, rfl⟩, ?_, ?_⟩
    · rintro ρ' O' ⟨s, rfl, ok, ht, x2, x3, x4, x5, x6, x7, x8, x9, x10, x11, x12, x13, x14, x15, x16, x17, rfl⟩
      repeat contradiction
      exact pv _
    · rintro i y ρ' O' ⟨s, rfl, ok, ht, x2, x3, x4, x5, x6, x7, x8, x9, x10, x11, x12, x13, x14, x15, x16, x17, rfl⟩ hi
      have hi12 : i ≤ 11 := by
        obtain ⟨hlt, rfl⟩ := ints_get hi
        have : (if (9 : Int) < ((ns.map D.int).length : Nat) then (9 : Int) else ((ns.map D.int).length : Nat)) ≤ 9 := by split <;> omega
        omega
      refine rg_name ?_
      repeat contradiction
      refine re_callF ?_
      repeat contradiction
      refine ⟨dOwn d s, _, .refl _, d, s, rfl, rfl, ok, by omega, fun sc s1 hs nz ok1 ht1 => ?_⟩
      repeat contradiction
      refine re_callF ?_
      repeat contradiction
      refine re_lstOD ?_
      repeat contradiction
      refine re_callF ?_
      repeat contradiction
      refine ⟨dOwn d s1, _, .refl _, d, s1, 12, rfl, rfl, ok1, by omega, by decide, by decide, fun c0 s2 c1 c2 ok2 ht2 => ?_⟩
      repeat contradiction
      refine ⟨rfl, fun p => ?_⟩
      refine ra_nil ?_
      refine ⟨lOwn d p s2 (1 + c0), [(pl, .tb qLaw)], ?_, d, s2, sc, p, 1 + c0, rfl, hs, rfl, by omega, by decide, by decide, by omega, ok2, by rw [phi_gt (by omega)]; omega, fun wv c' s3 I dr ok3 ht3 => ?_⟩
      · exact (List.perm_middle (l₁ := dOwn d s2)).symm
      refine rs_less (q := (p, .ls [.int c'])) (O' := dOwn d s3 ++ [(pl, .tb qLaw)]) ?_ ?_
      · show (dOwn d s3 ++ [_] ++ _).Perm _
        rw [List.append_assoc]
        exact List.perm_middle
      have hus := dr.us
      have hca := dr.ca
      rw [phi_gt (by omega : (1 : Int) ≤ 1 + c0)] at hus
      have hp0 := phi_0 c'
      have hI : I ≤ 11 := by omega
      obtain ⟨h3, hsc⟩ := scope_txts hs
      have hwv : wvD sc 13 wv = true := dr.wv
      have hcn : cnt 13 wv ≤ 34 := by have := dr.cn; omega
      have hT : s3.turn ≤ 300 * i + 205 := by omega
      have wok : WOk sc 13 wv := ⟨hs, hwv, by decide, by omega⟩
      clear hus hca hp0 dr ht1 ht2 ht3 ht
      have hl3 : (txts sc).length ≤ 3 := by simpa [txts] using h3
      refine rs_seq (rs_asg2 (re_tupD ?_))
      repeat contradiction
      refine re_callF ?_
      repeat contradiction
      refine ⟨[], _, .refl _, sc, wv, 13, rfl, by decide, by decide, hwv, by omega, hsc, ?_⟩
      refine ra_cons (re_lc (gin_name (by decide)) (ri_seq (re_callF ?_)))
      repeat contradiction
      refine ⟨[], _, .refl _, sc, wv, 13, rfl, by decide, by decide, hwv, by omega, ?_⟩
      have hsl := sub_len 13 wv hwv
      have hpl := (pt_len 13 wv hwv).1
      have hat := at_pt 13 wv hwv
      refine ⟨_, _, rfl, rfl, fun i acc O' => O' = dOwn d s3 ++ [(pl, .tb qLaw)] ∧ acc = (subW 13 wv).take i ∧ acc.length ≤ i, ⟨rfl, rfl, Nat.le_refl _⟩, small1000 (by rw [List.length_map]; omega), ?_, ?_⟩
      rotate_left
      · rintro j dd acc O' ⟨rfl, rfl, hal⟩ hj
        rw [List.getElem?_map] at hj
        obtain ⟨q, hq, rfl⟩ := Option.map_eq_some_iff.mp hj
        obtain ⟨x, hx, hax⟩ : ∃ x, (subW 13 wv)[j]? = some x ∧ atW wv q = some x := by
          have := congrArg (fun l => l[j]?) hat
          simp only [List.getElem?_map, hq, Option.map_some] at this
          cases hs : (subW 13 wv)[j]? with
          | none => rw [hs] at this; cases this
          | some x => rw [hs] at this; exact ⟨x, rfl, Option.some.inj this⟩
        refine rg_name (rt_yes (re_callF ?_))
        repeat contradiction
        refine ⟨[], _, .refl _, sc, 13, wv, q, x, rfl, hwv, hax, ?_⟩
        refine ⟨_, rfl, hal, rfl, ?_, by rw [List.length_append]; exact Nat.succ_le_succ hal⟩
        rw [List.take_add_one, hx]
        rfl
      rintro acc O' ⟨rfl, rfl, _⟩
      rw [List.length_map, hpl, ← hsl, List.take_length]
      repeat contradiction
      refine ⟨rfl, ?_⟩
      refine ⟨_, rfl, rg_two ?_⟩
      repeat contradiction
      refine re_callF ?_
      repeat contradiction
      refine ⟨[], _, .refl _, sc, wv, 13, rfl, wok, ?_⟩
      repeat contradiction
      rw [hsl, ne_int]
      repeat contradiction
      refine re_callK0 ?_
      repeat contradiction
      refine ⟨[], _, .refl _, sc, wv, 13, rfl, wok, ?_⟩
      repeat contradiction
      rw [hsl, ne_int]
      repeat contradiction
      have hsubP : ∀ x ∈ subW 13 wv, Al.plain 26 x = true := fun x hx => by
        obtain ⟨k, h1, h2, h4⟩ := sub_wv 13 wv hwv x hx
        exact plain_mono (wv_plain k _ x h2 (wv_cl hsc h3 k x h2 (by omega))) (by omega)
      have hrow := row_letter hs
      have hrl := row_len hs
      rw [row_eq hl3] at hrow hrl
      refine re_lc (gin_name (by decide)) (ri_seq (re_callF ?_))
      repeat contradiction
      refine ⟨[], _, .refl _, txts sc, rfl, hl3, ?_⟩
      refine ⟨_, _, rfl, rfl, fun i acc O' => O' = dOwn d s3 ++ [(pl, .tb qLaw)] ∧ acc = (((lawL (txts sc)).map D.tup).take i).filter (fun x => inP (ltr x) (subW 13 wv)) ∧ acc.length ≤ i, ⟨rfl, rfl, Nat.le_refl _⟩, small1000 (by omega), ?_, ?_⟩
      rotate_left
      · rintro j dd acc O' ⟨rfl, rfl, hal⟩ hj
        have hdl := hrow dd (List.mem_of_getElem? hj)
        refine rg_name (rt_test ?_)
        repeat contradiction
        refine re_tupD ?_
        repeat contradiction
        refine ⟨rfl, ?_⟩
        repeat contradiction
        refine rr_inP (n := 2) (m := 26) (x := ltr dd) ?_ (pl_all hsubP) (by decide) (by decide) ?_
        · show plainL 1 [D.str "letter", dd] = true
          exact plainL_of fun x hx => by
            rcases List.mem_cons.mp hx with rfl | hx
            · decide +kernel
            · rw [List.mem_singleton.mp hx]; exact (letter_tree hsc hdl).1
        refine ⟨_, rfl, ?_⟩
        have et : (((lawL (txts sc)).map D.tup).take (j + 1)).filter (fun x => inP (ltr x) (subW 13 wv)) = (((lawL (txts sc)).map D.tup).take j).filter (fun x => inP (ltr x) (subW 13 wv)) ++ if inP (ltr dd) (subW 13 wv) = true then [dd] else [] := by
          rw [List.take_add_one, hj, List.filter_append]
          congr 1
          simp only [Option.toList_some, List.filter_cons, List.filter_nil]
        cases hb : inP (ltr dd) (subW 13 wv) with
        | true =>
          refine ift rfl ?_
          rw [hb, if_pos rfl] at et
          repeat contradiction
          exact ⟨hal, rfl, et.symm, by rw [List.length_append]; exact Nat.succ_le_succ hal⟩
        | false =>
          refine iff' rfl ?_
          rw [hb, if_neg Bool.false_ne_true, List.append_nil] at et
          exact ⟨rfl, et.symm, by omega⟩
      rintro acc O' ⟨rfl, rfl, _⟩
      rw [List.take_length, due_eq hsc hwv, ← row_eq hl3]
      repeat contradiction
      refine rc_tuple rfl ?_
      obtain ⟨dueP, dueS⟩ := tup_tree (l := (rowD (txts sc)).filter fun x => inP x (letW 13 wv)) (n := 1) fun x hx => letter_tree hsc (row_letter hs x ((List.mem_filter.mp hx).1))
      repeat contradiction
      refine re_callF ?_
      repeat contradiction
      refine ⟨[], _, .refl _, sc, wv, 13, rfl, wok, ?_⟩
      repeat contradiction
      refine rr_ne dueP dueP (by decide) (by decide) ?_
      rw [ne_self dueS]
      repeat contradiction
      refine re_callK0 ?_
      repeat contradiction
      refine ⟨[], _, .refl _, sc, wv, 13, rfl, wok, ?_⟩
      repeat contradiction
      refine rr_ne dueP dueP (by decide) (by decide) ?_
      rw [ne_self dueS]
      repeat (first | refine ⟨_, rfl, ?_⟩ | rw [if_neg Bool.false_ne_true] | with_reducible refine rs_next ?_ | with_reducible refine rs_seq ?_ | with_reducible refine rs_asg ?_)
      generalize hdue : (rowD (txts sc)).filter (fun x => inP x (letW 13 wv)) = due
      refine re_imp (P := fun s' O' => O' = dOwn d s3 ++ [(pl, .tb qLaw)] ∧ s' = .d (oD (plW 13 wv))) ?_ ?_
      · refine re_if (rt_test ?_)
        repeat contradiction
        refine rr_isNon (fun u z => by cases q : tdW 13 wv <;> rw [q] at z <;> cases z) ?_
        refine ⟨_, rfl, ?_⟩
        rw [pl_td 13 wv hwv]
        cases htd : tdW 13 wv with
        | none =>
          refine ift rfl ?_
          repeat contradiction
          exact ⟨rfl, rfl⟩
        | some l =>
          refine iff' rfl ?_
          repeat contradiction
          exact ⟨rfl, rfl⟩
      rintro s' O' ⟨rfl, rfl⟩
      obtain ⟨hsm, hsz⟩ := len_small (plW 13 wv) fun k hk => by
        rw [pl_td 13 wv hwv] at hk
        obtain ⟨l, hl, rfl⟩ := Option.map_eq_some_iff.mp hk
        have := (td_letters hwv hl).2
        omega
      repeat contradiction
      refine re_lstD ?_
      repeat contradiction
      refine re_callF ?_
      repeat contradiction
      refine ⟨[], _, .refl _, sc, wv, 13, rfl, wok, ?_⟩
      refine ra_cons (re_callK0 ?_)
      repeat contradiction
      refine ⟨[], _, .refl _, sc, wv, 13, rfl, wok, ?_⟩
      refine ra_nil ⟨_, rfl, rfl, ?_⟩
      refine ra_nil (rc_reprL hsm hsz ?_)
      repeat contradiction
      refine re_lstD ?_
      repeat contradiction
      refine ⟨rfl, ?_⟩
      refine ra_nil (rc_reprL hsm hsz ?_)
      repeat contradiction
      rw [ne_str]
      repeat (first | refine ⟨_, rfl, ?_⟩ | rw [if_neg Bool.false_ne_true] | with_reducible refine rs_next ?_)
      show RunS K (T a) (tSeq _ _) [.d (.scr (ns.map .int)), .o d, .d y, .d (.tup (txts sc)), .d wv, .d (tD (tdW 13 wv)), .d (.lst (subW 13 wv)), x7, .d (.tup due), x9, .d (oD (plW 13 wv)), x11, x12, x13, x14, x15, x16, x17] (dOwn d s3 ++ [(pl, .tb qLaw)]) _
      refine Al.rs_cut (fun ρ' O' => ρ' = [.d (.scr (ns.map .int)), .o d, .d y, .d (.tup (txts sc)), .d wv, .d (tD (tdW 13 wv)), .d (.lst (subW 13 wv)), x7, .d (.tup due), x9, .d (oD (plW 13 wv)), x11, x12, x13, x14, x15, x16, x17] ∧ O' = dOwn d s3 ++ [(pl, .tb qLaw)]) ?_ ?_
      · refine rs_if (rt_test ?_)
        repeat contradiction
        refine rr_isNon (fun u z => by cases q : tdW 13 wv <;> rw [q] at z <;> cases z) ?_
        refine ⟨_, rfl, ?_⟩
        cases htd : tdW 13 wv with
        | none =>
          refine ift rfl ?_
          refine rs_if (rt_not (rt_B (re_isCaught (List.mem_append_right _ (.head _)) (rx_call ?_))))
          repeat contradiction
          refine ⟨sc, wv, 13, rfl, wok, htd, true, rfl, ?_⟩
          exact iff' rfl (rs_next ⟨rfl, rfl⟩)
        | some l =>
          refine iff' rfl ?_
          obtain ⟨tP, tS⟩ := tup_tree (l := l) (n := 1) fun x hx => letter_tree hsc ((td_letters hwv htd).1 x hx)
          repeat contradiction
          refine re_callF ?_
          repeat contradiction
          refine ⟨[], _, .refl _, sc, wv, 13, l, rfl, wok, htd, ?_⟩
          repeat contradiction
          refine rr_ne tP tP (by decide) (by decide) ?_
          rw [show (!eqD (.tup l) (tD (some l))) = false from ne_self tS]
          repeat contradiction
          refine re_callK0 ?_
          repeat contradiction
          refine ⟨[], _, .refl _, sc, wv, 13, l, rfl, wok, htd, ?_⟩
          repeat contradiction
          refine rr_ne tP tP (by decide) (by decide) ?_
          rw [show (!eqD (.tup l) (tD (some l))) = false from ne_self tS]
          repeat contradiction
          exact ⟨rfl, rfl⟩
      rintro ρ' O' ⟨rfl, rfl⟩
      generalize tD (tdW 13 wv) = told
      generalize oD (plW 13 wv) = many
      generalize subW 13 wv = borne at *
      repeat contradiction
      refine re_lc (gin_name (by decide)) (ri_rng1 ?_)
      repeat contradiction
      refine re_callF ?_
      repeat contradiction
      refine ⟨dOwn d s3, _, .refl _, d, s3, 21, rfl, rfl, ok3, by omega, by decide, by decide, fun m s4 m0 m1 ok4 ht4 => ?_⟩
      obtain ⟨n1', n2'⟩ := lawL_len _ (txts sc) rfl
      have n3 : (lawL (txts sc)).length ≤ 8 := by simpa using hrl
      have n4 : 0 < (lawL (txts sc)).length := by rw [n1']; exact Nat.pow_pos (by decide)
      refine ra_nil ⟨_, rfl, by omega, by omega, ?_⟩
      have hm20 : m.toNat ≤ 20 := by omega
      refine ⟨fun i acc O' => ∃ s' : Dr, O' = dOwn d s' ++ [(pl, .tb qLaw)] ∧ acc.length = i ∧ (∀ x ∈ acc, letterD sc x = true) ∧ s'.Ok ∧ s'.turn ≤ s4.turn + i, ⟨s4, rfl, rfl, (fun _ h => nomatch h), ok4, by omega⟩, small1000 (by rw [ints_len]; omega), ?_, ?_⟩
      rotate_left
      · rintro j dd acc O' ⟨s5, rfl, hal, hlet, ok5, ht5⟩ hj
        obtain ⟨hj2, rfl⟩ := ints_get hj
        refine rg_name (rt_yes (re_callF ?_))
        repeat contradiction
        refine re_callF ?_
        repeat contradiction
        refine ⟨[], _, .refl _, txts sc, rfl, hl3, ?_⟩
        refine ra_nil ⟨dOwn d s5, [(pl, .tb qLaw)], .refl _, d, s5, _, (lawL (txts sc)).map .tup, rfl, rfl, by rw [List.length_map]; exact n4, by rw [List.length_map]; omega, rfl, ok5, by omega, fun x s6 hx ok6 ht6 => ?_⟩
        refine ⟨_, rfl, by omega, s6, rfl, by rw [List.length_append, hal]; rfl, fun z hz => ?_, ok6, by push_cast; omega⟩
        rcases List.mem_append.mp hz with hz | hz
        · exact hlet z hz
        · rw [List.mem_singleton.mp hz]; exact hrow x hx
      rintro row O' ⟨s5, rfl, hrl2, hlet, ok5, ht5⟩
      rw [ints_len] at hrl2 ht5
      have hr20 : row.length ≤ 20 := by omega
      repeat contradiction
      refine rc_tuple rfl ?_
      repeat (first | refine ⟨_, rfl, ?_⟩ | with_reducible refine rs_next ?_ | with_reducible refine rs_seq ?_ | with_reducible refine rs_asg ?_)
      refine re_imp (P := fun s' O' => O' = dOwn d s5 ++ [(pl, .tb qLaw)] ∧ s' = .d (lineD (row.drop (row.length - 1)))) ?_ ?_
      · refine re_if (rt_test ?_)
        repeat contradiction
        refine re_tupD ?_
        repeat contradiction
        refine ⟨rfl, ?_⟩
        refine rr_eqT0 ?_
        refine ⟨_, rfl, ?_⟩
        cases hr : row with
        | nil =>
          refine ift rfl (re_tupD ?_)
          repeat contradiction
          exact ⟨rfl, rfl, rfl⟩
        | cons x0 r0 =>
          refine iff' rfl (re_tupD ?_)
          obtain ⟨y0, hy0⟩ := has_last (l := row) (by rw [hr]; simp)
          rw [← hr]
          repeat contradiction
          refine rr_ix rfl (atI_last hy0) ?_
          repeat contradiction
          refine ⟨rfl, rfl, ?_⟩
          rw [last_drop hy0]
          rfl
      rintro s' O' ⟨rfl, rfl⟩
      show RunS K (T a) (tSeq _ _) _ _ _
      refine rs_seq (rs_for (ri_seq (re_cutT ?_)))
      repeat contradiction
      refine ⟨_, row.dropLast.reverse, rfl, rfl, fun j ρ' O' => O' = dOwn d s5 ++ [(pl, .tb qLaw)] ∧ ∃ z, ρ' = [.d (.scr (ns.map .int)), .o d, .d y, .d (.tup (txts sc)), .d wv, .d told, .d (.lst borne), x7, .d (.tup due), z, .d many, .d (.tup row), x12, .d (lineD (row.drop (row.length - 1 - j))), x14, x15, x16, x17], ⟨rfl, _, rfl⟩, ?_, ?_⟩
      rotate_left
      · rintro j dd ρ' O' ⟨rfl, z, rfl⟩ hj
        obtain ⟨e1, e2⟩ := rev_init hj
        refine rg_name ?_
        repeat contradiction
        refine re_tupD ?_
        repeat contradiction
        refine re_tupD ?_
        repeat contradiction
        refine ⟨rfl, ?_⟩
        repeat contradiction
        refine ⟨rfl, ?_⟩
        refine ⟨rfl, .d dd, ?_⟩
        rw [e1, line_cons dd (fun z => by have := congrArg List.length z; rw [List.length_drop] at this; simp at this; omega)]
        rfl
      rintro ρ' O' ⟨rfl, z9, rfl⟩
      have e0 : row.length - 1 - row.dropLast.reverse.length = 0 := by rw [List.length_reverse, List.length_dropLast]; omega
      rw [e0, List.drop_zero]
      obtain ⟨l1, l2, l3⟩ := line_ok row hlet
      have wokL : WOk sc (row.length + 1) (lineD row) := ⟨hs, l1, by omega, by omega⟩
      obtain ⟨lP, lS⟩ := wv_tree2 wokL
      obtain ⟨rP, rS⟩ := tup_tree (l := row) (n := 1) fun x hx => letter_tree hsc (hlet x hx)
      repeat contradiction
      refine re_callF ?_
      repeat contradiction
      refine ⟨[], _, .refl _, sc, row, rfl, hs, hr20, hlet, ?_⟩
      repeat contradiction
      refine rr_ne lP lP (by decide) (by decide) ?_
      rw [ne_self lS]
      repeat contradiction
      refine re_callK0 ?_
      repeat contradiction
      refine ⟨[], _, .refl _, sc, row, rfl, hs, hr20, hlet, ?_⟩
      repeat contradiction
      refine rr_ne lP lP (by decide) (by decide) ?_
      rw [ne_self lS]
      repeat contradiction
      refine re_callF ?_
      repeat contradiction
      refine re_callF ?_
      repeat contradiction
      refine ⟨[], _, .refl _, sc, row, rfl, hs, hr20, hlet, ?_⟩
      repeat contradiction
      refine ⟨[], _, .refl _, sc, lineD row, row.length + 1, row, rfl, wokL, l2, ?_⟩
      repeat contradiction
      refine rr_ne rP rP (by decide) (by decide) ?_
      rw [ne_self rS]
      repeat contradiction
      refine rs_asg2 (re_tupD ?_)
      repeat contradiction
      refine re_callF ?_
      repeat contradiction
      refine ⟨dOwn d s5, [(pl, .tb qLaw)], .refl _, d, s5, sc, rfl, rfl, ok5, by omega, h3, fun bad s6 hbad ok6 ht6 => ?_⟩
      repeat contradiction
      refine re_callF ?_
      repeat (first | contradiction | refine re_tupD ?_ | refine re_lstD ?_ | refine ⟨rfl, ?_⟩)
      refine ⟨dOwn d s6, [(pl, .tb qLaw)], .refl _, d, s6, _, offL, rfl, rfl, (show 0 < 7 by decide), (show 7 ≤ 100000 by decide), rfl, ok6, by omega, fun off s7 hoff ok7 ht7 => ?_⟩
      obtain ⟨hso, hno⟩ := off_ok off hoff
      obtain ⟨hbc, hbo⟩ := bad_ok hs nz bad hbad
      repeat contradiction
      refine ⟨rfl, ?_⟩
      refine ⟨_, rfl, rg_two ?_⟩
      show RunS K (T a) (tSeq _ _) _ (dOwn d s7 ++ [(pl, .tb qLaw)]) _
      refine rs_seq (rs_for (ri_seq (re_lstD ?_)))
      refine ra_cons (re_raw (ra_cons (re_raw (ra_cons (re_raw (ra_cons (re_raw (ra_nil ?_))))))))
      refine ⟨_, rfl, rfl, _, _, rfl, rfl, fun j ρ' O' => O' = dOwn d s7 ++ [(pl, .tb qLaw)] ∧ ∃ z, ρ' = [.d (.scr (ns.map .int)), .o d, .d y, .d (.tup (txts sc)), .d wv, .d told, .d (.lst borne), x7, .d (.tup due), z9, .d many, .d (.tup row), x12, .d (lineD row), .d bad, .d off, z, x17], ⟨rfl, _, rfl⟩, ?_, ?_⟩
      rotate_left
      · rintro j dd ρ' O' ⟨rfl, z, rfl⟩ hj
        obtain ⟨f, hf, rfl⟩ : ∃ f ∈ [a.f_size, a.f_letters_in, a.f_length, a.f_spelled], dd = .raw (.ref f) := by
          have := List.mem_of_getElem? hj
          simp only [List.mem_cons, List.not_mem_nil, or_false] at this
          rcases this with rfl | rfl | rfl | rfl <;> exact ⟨_, by simp, rfl⟩
        refine rg_name ?_
        refine rs_seq (rs_if (rt_not (rt_B (re_isCaught (List.mem_append_right _ (.head _)) (rx_callH (f := f) rfl hf ?_)))))
        repeat contradiction
        refine ⟨off, bad, rfl, ⟨hso, hno⟩, true, rfl, ?_⟩
        refine iff' rfl (rs_next ?_)
        refine rs_if (rt_not (rt_B (re_isCaught (List.mem_append_right _ (.head _)) (rx_callH (f := f) rfl hf ?_))))
        repeat contradiction
        refine ⟨_, bad, rfl, ⟨sc, 4, rfl, hs, hbc, by decide, hbo⟩, true, rfl, ?_⟩
        exact iff' rfl (rs_next ⟨rfl, _, rfl⟩)
      rintro ρ' O' ⟨rfl, z16, rfl⟩
      repeat contradiction
      refine re_callF ?_
      repeat (first | contradiction | refine re_tupD ?_ | refine re_lstD ?_ | refine ⟨rfl, ?_⟩)
      refine rr_repT (by simp) (by decide) (by decide) (by decide) ?_
      repeat (first | contradiction | refine re_tupD ?_ | refine re_lstD ?_ | refine ⟨rfl, ?_⟩)
      refine ⟨dOwn d s7, [(pl, .tb qLaw)], .refl _, d, s7, _, oddL, rfl, rfl, (show 0 < 8 by decide), (show 8 ≤ 100000 by decide), rfl, ok7, by omega, fun odd s8 hodd ok8 ht8 => ?_⟩
      obtain ⟨hoc, hor⟩ := odd_ok nz odd hodd
      show RunS K (T a) (tSeq _ _) _ (dOwn d s8 ++ [(pl, .tb qLaw)]) _
      refine rs_seq (rs_if (rt_not (rt_B (re_isCaught (List.mem_append_right _ (.head _)) (rx_call ?_)))))
      repeat contradiction
      refine ⟨off, odd, rfl, ⟨hso, hno⟩, true, rfl, ?_⟩
      refine iff' rfl (rs_next ?_)
      refine rs_if (rt_not (rt_B (re_isCaught (List.mem_append_right _ (.head _)) (rx_call ?_))))
      repeat contradiction
      refine ⟨_, odd, rfl, ⟨sc, rfl, hs, hoc, hor⟩, true, rfl, ?_⟩
      exact iff' rfl (rs_next ⟨s8, rfl, ok8, by omega, _, _, _, _, _, _, _, _, _, _, _, _, _, _, _, _, rfl⟩)
end K0
end
section
set_option Elab.async false
set_option linter.all false
set_option maxRecDepth 100000
set_option maxHeartbeats 2000000
namespace K0
open PySem PySem.Spec PyProof.Rows L2 Al
theorem all_mk {l : PySem.W.OpenLaw} {w : World} {K : PySem.W.Frag} {h : Heap} {mg : Str → Option Value} {fa : Addr} {q : Program} (KX : K.In h) (G : h.Ns mainGlobals mg) (hfa : mg "law" = some (.ref fa)) (own : ∀ (name : Str) (f : Addr), ((recsOf q).any fun e => e.name == name) = true → mg name = some (.ref f) → TabOf K f h) (hno : noTab K = true)
    {f_is_ascending c_is_ascending : Addr} {oc_is_ascending kV_is_ascending dc_is_ascending pm_is_ascending ct_is_ascending : Value} {od_is_ascending an_is_ascending : Option Addr} {sl_is_ascending : Array (Option Value)}
    {f_head_of c_head_of : Addr} {oc_head_of kV_head_of dc_head_of pm_head_of ct_head_of : Value} {od_head_of an_head_of : Option Addr} {sl_head_of : Array (Option Value)}
    {f_is_name c_is_name : Addr} {oc_is_name kV_is_name dc_is_name pm_is_name ct_is_name : Value} {od_is_name an_is_name : Option Addr} {sl_is_name : Array (Option Value)}
    {f_is_scope c_is_scope : Addr} {oc_is_scope kV_is_scope dc_is_scope pm_is_scope ct_is_scope : Value} {od_is_scope an_is_scope : Option Addr} {sl_is_scope : Array (Option Value)}
    {f_need_scope c_need_scope : Addr} {oc_need_scope kV_need_scope dc_need_scope pm_need_scope ct_need_scope : Value} {od_need_scope an_need_scope : Option Addr} {sl_need_scope : Array (Option Value)}
    {f_letter_row c_letter_row : Addr} {oc_letter_row kV_letter_row dc_letter_row pm_letter_row ct_letter_row : Value} {od_letter_row an_letter_row : Option Addr} {sl_letter_row : Array (Option Value)}
    {f_is_letter c_is_letter : Addr} {oc_is_letter kV_is_letter dc_is_letter pm_is_letter ct_is_letter : Value} {od_is_letter an_is_letter : Option Addr} {sl_is_letter : Array (Option Value)}
    {f_parts_of c_parts_of : Addr} {oc_parts_of kV_parts_of dc_parts_of pm_parts_of ct_parts_of : Value} {od_parts_of an_parts_of : Option Addr} {sl_parts_of : Array (Option Value)}
    {f_is_knot c_is_knot : Addr} {oc_is_knot kV_is_knot dc_is_knot pm_is_knot ct_is_knot : Value} {od_is_knot an_is_knot : Option Addr} {sl_is_knot : Array (Option Value)}
    {f_nodes_at_most c_nodes_at_most : Addr} {oc_nodes_at_most kV_nodes_at_most dc_nodes_at_most pm_nodes_at_most ct_nodes_at_most : Value} {od_nodes_at_most an_nodes_at_most : Option Addr} {sl_nodes_at_most : Array (Option Value)}
    {f_is_weave c_is_weave : Addr} {oc_is_weave kV_is_weave dc_is_weave pm_is_weave ct_is_weave : Value} {od_is_weave an_is_weave : Option Addr} {sl_is_weave : Array (Option Value)}
    {f_need_weave c_need_weave : Addr} {oc_need_weave kV_need_weave dc_need_weave pm_need_weave ct_need_weave : Value} {od_need_weave an_need_weave : Option Addr} {sl_need_weave : Array (Option Value)}
    {f_node_count c_node_count : Addr} {oc_node_count kV_node_count dc_node_count pm_node_count ct_node_count : Value} {od_node_count an_node_count : Option Addr} {sl_node_count : Array (Option Value)}
    {f_size c_size : Addr} {oc_size kV_size dc_size pm_size ct_size : Value} {od_size an_size : Option Addr} {sl_size : Array (Option Value)}
    {f_letters_below c_letters_below : Addr} {oc_letters_below kV_letters_below dc_letters_below pm_letters_below ct_letters_below : Value} {od_letters_below an_letters_below : Option Addr} {sl_letters_below : Array (Option Value)}
    {f_letters_in c_letters_in : Addr} {oc_letters_in kV_letters_in dc_letters_in pm_letters_in ct_letters_in : Value} {od_letters_in an_letters_in : Option Addr} {sl_letters_in : Array (Option Value)}
    {f_place_count c_place_count : Addr} {oc_place_count kV_place_count dc_place_count pm_place_count ct_place_count : Value} {od_place_count an_place_count : Option Addr} {sl_place_count : Array (Option Value)}
    {f_length c_length : Addr} {oc_length kV_length dc_length pm_length ct_length : Value} {od_length an_length : Option Addr} {sl_length : Array (Option Value)}
    {f_spelled c_spelled : Addr} {oc_spelled kV_spelled dc_spelled pm_spelled ct_spelled : Value} {od_spelled an_spelled : Option Addr} {sl_spelled : Array (Option Value)}
    {f_in_row c_in_row : Addr} {oc_in_row kV_in_row dc_in_row pm_in_row ct_in_row : Value} {od_in_row an_in_row : Option Addr} {sl_in_row : Array (Option Value)}
    {f_written c_written : Addr} {oc_written kV_written dc_written pm_written ct_written : Value} {od_written an_written : Option Addr} {sl_written : Array (Option Value)}
    {f_law_begun c_law_begun : Addr} {oc_law_begun kV_law_begun dc_law_begun pm_law_begun ct_law_begun : Value} {od_law_begun an_law_begun : Option Addr} {sl_law_begun : Array (Option Value)}
    {f_law_mixed c_law_mixed : Addr} {oc_law_mixed kV_law_mixed dc_law_mixed pm_law_mixed ct_law_mixed : Value} {od_law_mixed an_law_mixed : Option Addr} {sl_law_mixed : Array (Option Value)}
    {f_law_take c_law_take : Addr} {oc_law_take kV_law_take dc_law_take pm_law_take ct_law_take : Value} {od_law_take an_law_take : Option Addr} {sl_law_take : Array (Option Value)}
    {f_law_pick c_law_pick : Addr} {oc_law_pick kV_law_pick dc_law_pick pm_law_pick ct_law_pick : Value} {od_law_pick an_law_pick : Option Addr} {sl_law_pick : Array (Option Value)}
    {f_law_shuffled c_law_shuffled : Addr} {oc_law_shuffled kV_law_shuffled dc_law_shuffled pm_law_shuffled ct_law_shuffled : Value} {od_law_shuffled an_law_shuffled : Option Addr} {sl_law_shuffled : Array (Option Value)}
    {f_law_caught c_law_caught : Addr} {oc_law_caught kV_law_caught dc_law_caught pm_law_caught ct_law_caught : Value} {od_law_caught an_law_caught : Option Addr} {sl_law_caught : Array (Option Value)}
    {f_law_names c_law_names : Addr} {oc_law_names kV_law_names dc_law_names pm_law_names ct_law_names : Value} {od_law_names an_law_names : Option Addr} {sl_law_names : Array (Option Value)}
    {f_law_scope c_law_scope : Addr} {oc_law_scope kV_law_scope dc_law_scope pm_law_scope ct_law_scope : Value} {od_law_scope an_law_scope : Option Addr} {sl_law_scope : Array (Option Value)}
    {f_law_letters c_law_letters : Addr} {oc_law_letters kV_law_letters dc_law_letters pm_law_letters ct_law_letters : Value} {od_law_letters an_law_letters : Option Addr} {sl_law_letters : Array (Option Value)}
    {f_law_once c_law_once : Addr} {oc_law_once kV_law_once dc_law_once pm_law_once ct_law_once : Value} {od_law_once an_law_once : Option Addr} {sl_law_once : Array (Option Value)}
    {f_law_weave c_law_weave : Addr} {oc_law_weave kV_law_weave dc_law_weave pm_law_weave ct_law_weave : Value} {od_law_weave an_law_weave : Option Addr} {sl_law_weave : Array (Option Value)}
    {f_law_inner c_law_inner : Addr} {oc_law_inner kV_law_inner dc_law_inner pm_law_inner ct_law_inner : Value} {od_law_inner an_law_inner : Option Addr} {sl_law_inner : Array (Option Value)}
    {f_law_nodes c_law_nodes : Addr} {oc_law_nodes kV_law_nodes dc_law_nodes pm_law_nodes ct_law_nodes : Value} {od_law_nodes an_law_nodes : Option Addr} {sl_law_nodes : Array (Option Value)}
    {f_law_at c_law_at : Addr} {oc_law_at kV_law_at dc_law_at pm_law_at ct_law_at : Value} {od_law_at an_law_at : Option Addr} {sl_law_at : Array (Option Value)}
    {f_law_told c_law_told : Addr} {oc_law_told kV_law_told dc_law_told pm_law_told ct_law_told : Value} {od_law_told an_law_told : Option Addr} {sl_law_told : Array (Option Value)}
    {f_law_bad_weave c_law_bad_weave : Addr} {oc_law_bad_weave kV_law_bad_weave dc_law_bad_weave pm_law_bad_weave ct_law_bad_weave : Value} {od_law_bad_weave an_law_bad_weave : Option Addr} {sl_law_bad_weave : Array (Option Value)}
    {f_law c_law : Addr} {oc_law kV_law dc_law pm_law ct_law : Value} {od_law an_law : Option Addr} {sl_law : Array (Option Value)}
    {o_KEPT : Addr}
    {dd_KEPT : Option Addr} {vs_KEPT : Array Value} {n_KEPT : Nat} {sl_KEPT : Array (Option Value)}
    {t_LETTERS_OF_NAMES : Tok}
    {t_MOST_NODES : Tok}
    {t_MOST_DEEP : Tok}
    {o_SHAPES : Addr}
    {es_SHAPES : Array DictEntry} {n_SHAPES : Nat}
    {o_OrderError : Addr}
    {o_BadLetters : Addr}
    {o_BadScope : Addr}
    {o_BadWeave : Addr}
    {o_NotFinite : Addr}
    (a_is_ascending : PySem.W.nsIn K mainGlobals "is_ascending" = some (some (.ref f_is_ascending)))
    (l_is_ascending : K.lookup f_is_ascending = some ⟨oc_is_ascending, od_is_ascending, .func (PySem.W.fnOf "is_ascending" "is_ascending" (defArgs s_is_ascending) (defBody s_is_ascending) (defScope s_is_ascending) .none kV_is_ascending dc_is_ascending pm_is_ascending an_is_ascending (.ref c_is_ascending) ct_is_ascending), sl_is_ascending⟩)
    (h_is_ascending : PySem.W.codeIn K (.ref c_is_ascending) "is_ascending" = true)
    (k_is_ascending : PySem.W.keepIn K (.ref f_is_ascending) = true)
    (r_is_ascending : ((recsOf q).any fun e => e.name == "is_ascending") = true)
    (a_head_of : PySem.W.nsIn K mainGlobals "head_of" = some (some (.ref f_head_of)))
    (l_head_of : K.lookup f_head_of = some ⟨oc_head_of, od_head_of, .func (PySem.W.fnOf "head_of" "head_of" (defArgs s_head_of) (defBody s_head_of) (defScope s_head_of) .none kV_head_of dc_head_of pm_head_of an_head_of (.ref c_head_of) ct_head_of), sl_head_of⟩)
    (h_head_of : PySem.W.codeIn K (.ref c_head_of) "head_of" = true)
    (k_head_of : PySem.W.keepIn K (.ref f_head_of) = true)
    (a_is_name : PySem.W.nsIn K mainGlobals "is_name" = some (some (.ref f_is_name)))
    (l_is_name : K.lookup f_is_name = some ⟨oc_is_name, od_is_name, .func (PySem.W.fnOf "is_name" "is_name" (defArgs s_is_name) (defBody s_is_name) (defScope s_is_name) .none kV_is_name dc_is_name pm_is_name an_is_name (.ref c_is_name) ct_is_name), sl_is_name⟩)
    (h_is_name : PySem.W.codeIn K (.ref c_is_name) "is_name" = true)
    (k_is_name : PySem.W.keepIn K (.ref f_is_name) = true)
    (r_is_name : ((recsOf q).any fun e => e.name == "is_name") = true)
    (a_is_scope : PySem.W.nsIn K mainGlobals "is_scope" = some (some (.ref f_is_scope)))
    (l_is_scope : K.lookup f_is_scope = some ⟨oc_is_scope, od_is_scope, .func (PySem.W.fnOf "is_scope" "is_scope" (defArgs s_is_scope) (defBody s_is_scope) (defScope s_is_scope) .none kV_is_scope dc_is_scope pm_is_scope an_is_scope (.ref c_is_scope) ct_is_scope), sl_is_scope⟩)
    (h_is_scope : PySem.W.codeIn K (.ref c_is_scope) "is_scope" = true)
    (k_is_scope : PySem.W.keepIn K (.ref f_is_scope) = true)
    (r_is_scope : ((recsOf q).any fun e => e.name == "is_scope") = true)
    (a_need_scope : PySem.W.nsIn K mainGlobals "need_scope" = some (some (.ref f_need_scope)))
    (l_need_scope : K.lookup f_need_scope = some ⟨oc_need_scope, od_need_scope, .func (PySem.W.fnOf "need_scope" "need_scope" (defArgs s_need_scope) (defBody s_need_scope) (defScope s_need_scope) .none kV_need_scope dc_need_scope pm_need_scope an_need_scope (.ref c_need_scope) ct_need_scope), sl_need_scope⟩)
    (h_need_scope : PySem.W.codeIn K (.ref c_need_scope) "need_scope" = true)
    (k_need_scope : PySem.W.keepIn K (.ref f_need_scope) = true)
    (a_letter_row : PySem.W.nsIn K mainGlobals "letter_row" = some (some (.ref f_letter_row)))
    (l_letter_row : K.lookup f_letter_row = some ⟨oc_letter_row, od_letter_row, .func (PySem.W.fnOf "letter_row" "letter_row" (defArgs s_letter_row) (defBody s_letter_row) (defScope s_letter_row) .none kV_letter_row dc_letter_row pm_letter_row an_letter_row (.ref c_letter_row) ct_letter_row), sl_letter_row⟩)
    (h_letter_row : PySem.W.codeIn K (.ref c_letter_row) "letter_row" = true)
    (k_letter_row : PySem.W.keepIn K (.ref f_letter_row) = true)
    (a_is_letter : PySem.W.nsIn K mainGlobals "is_letter" = some (some (.ref f_is_letter)))
    (l_is_letter : K.lookup f_is_letter = some ⟨oc_is_letter, od_is_letter, .func (PySem.W.fnOf "is_letter" "is_letter" (defArgs s_is_letter) (defBody s_is_letter) (defScope s_is_letter) .none kV_is_letter dc_is_letter pm_is_letter an_is_letter (.ref c_is_letter) ct_is_letter), sl_is_letter⟩)
    (h_is_letter : PySem.W.codeIn K (.ref c_is_letter) "is_letter" = true)
    (k_is_letter : PySem.W.keepIn K (.ref f_is_letter) = true)
    (r_is_letter : ((recsOf q).any fun e => e.name == "is_letter") = true)
    (a_parts_of : PySem.W.nsIn K mainGlobals "parts_of" = some (some (.ref f_parts_of)))
    (l_parts_of : K.lookup f_parts_of = some ⟨oc_parts_of, od_parts_of, .func (PySem.W.fnOf "parts_of" "parts_of" (defArgs s_parts_of) (defBody s_parts_of) (defScope s_parts_of) .none kV_parts_of dc_parts_of pm_parts_of an_parts_of (.ref c_parts_of) ct_parts_of), sl_parts_of⟩)
    (h_parts_of : PySem.W.codeIn K (.ref c_parts_of) "parts_of" = true)
    (k_parts_of : PySem.W.keepIn K (.ref f_parts_of) = true)
    (a_is_knot : PySem.W.nsIn K mainGlobals "is_knot" = some (some (.ref f_is_knot)))
    (l_is_knot : K.lookup f_is_knot = some ⟨oc_is_knot, od_is_knot, .func (PySem.W.fnOf "is_knot" "is_knot" (defArgs s_is_knot) (defBody s_is_knot) (defScope s_is_knot) .none kV_is_knot dc_is_knot pm_is_knot an_is_knot (.ref c_is_knot) ct_is_knot), sl_is_knot⟩)
    (h_is_knot : PySem.W.codeIn K (.ref c_is_knot) "is_knot" = true)
    (k_is_knot : PySem.W.keepIn K (.ref f_is_knot) = true)
    (a_nodes_at_most : PySem.W.nsIn K mainGlobals "nodes_at_most" = some (some (.ref f_nodes_at_most)))
    (l_nodes_at_most : K.lookup f_nodes_at_most = some ⟨oc_nodes_at_most, od_nodes_at_most, .func (PySem.W.fnOf "nodes_at_most" "nodes_at_most" (defArgs s_nodes_at_most) (defBody s_nodes_at_most) (defScope s_nodes_at_most) .none kV_nodes_at_most dc_nodes_at_most pm_nodes_at_most an_nodes_at_most (.ref c_nodes_at_most) ct_nodes_at_most), sl_nodes_at_most⟩)
    (h_nodes_at_most : PySem.W.codeIn K (.ref c_nodes_at_most) "nodes_at_most" = true)
    (k_nodes_at_most : PySem.W.keepIn K (.ref f_nodes_at_most) = true)
    (a_is_weave : PySem.W.nsIn K mainGlobals "is_weave" = some (some (.ref f_is_weave)))
    (l_is_weave : K.lookup f_is_weave = some ⟨oc_is_weave, od_is_weave, .func (PySem.W.fnOf "is_weave" "is_weave" (defArgs s_is_weave) (defBody s_is_weave) (defScope s_is_weave) .none kV_is_weave dc_is_weave pm_is_weave an_is_weave (.ref c_is_weave) ct_is_weave), sl_is_weave⟩)
    (h_is_weave : PySem.W.codeIn K (.ref c_is_weave) "is_weave" = true)
    (k_is_weave : PySem.W.keepIn K (.ref f_is_weave) = true)
    (a_need_weave : PySem.W.nsIn K mainGlobals "need_weave" = some (some (.ref f_need_weave)))
    (l_need_weave : K.lookup f_need_weave = some ⟨oc_need_weave, od_need_weave, .func (PySem.W.fnOf "need_weave" "need_weave" (defArgs s_need_weave) (defBody s_need_weave) (defScope s_need_weave) .none kV_need_weave dc_need_weave pm_need_weave an_need_weave (.ref c_need_weave) ct_need_weave), sl_need_weave⟩)
    (h_need_weave : PySem.W.codeIn K (.ref c_need_weave) "need_weave" = true)
    (k_need_weave : PySem.W.keepIn K (.ref f_need_weave) = true)
    (a_node_count : PySem.W.nsIn K mainGlobals "node_count" = some (some (.ref f_node_count)))
    (l_node_count : K.lookup f_node_count = some ⟨oc_node_count, od_node_count, .func (PySem.W.fnOf "node_count" "node_count" (defArgs s_node_count) (defBody s_node_count) (defScope s_node_count) .none kV_node_count dc_node_count pm_node_count an_node_count (.ref c_node_count) ct_node_count), sl_node_count⟩)
    (h_node_count : PySem.W.codeIn K (.ref c_node_count) "node_count" = true)
    (k_node_count : PySem.W.keepIn K (.ref f_node_count) = true)
    (r_node_count : ((recsOf q).any fun e => e.name == "node_count") = true)
    (a_size : PySem.W.nsIn K mainGlobals "size" = some (some (.ref f_size)))
    (l_size : K.lookup f_size = some ⟨oc_size, od_size, .func (PySem.W.fnOf "size" "size" (defArgs s_size) (defBody s_size) (defScope s_size) .none kV_size dc_size pm_size an_size (.ref c_size) ct_size), sl_size⟩)
    (h_size : PySem.W.codeIn K (.ref c_size) "size" = true)
    (k_size : PySem.W.keepIn K (.ref f_size) = true)
    (a_letters_below : PySem.W.nsIn K mainGlobals "letters_below" = some (some (.ref f_letters_below)))
    (l_letters_below : K.lookup f_letters_below = some ⟨oc_letters_below, od_letters_below, .func (PySem.W.fnOf "letters_below" "letters_below" (defArgs s_letters_below) (defBody s_letters_below) (defScope s_letters_below) .none kV_letters_below dc_letters_below pm_letters_below an_letters_below (.ref c_letters_below) ct_letters_below), sl_letters_below⟩)
    (h_letters_below : PySem.W.codeIn K (.ref c_letters_below) "letters_below" = true)
    (k_letters_below : PySem.W.keepIn K (.ref f_letters_below) = true)
    (a_letters_in : PySem.W.nsIn K mainGlobals "letters_in" = some (some (.ref f_letters_in)))
    (l_letters_in : K.lookup f_letters_in = some ⟨oc_letters_in, od_letters_in, .func (PySem.W.fnOf "letters_in" "letters_in" (defArgs s_letters_in) (defBody s_letters_in) (defScope s_letters_in) .none kV_letters_in dc_letters_in pm_letters_in an_letters_in (.ref c_letters_in) ct_letters_in), sl_letters_in⟩)
    (h_letters_in : PySem.W.codeIn K (.ref c_letters_in) "letters_in" = true)
    (k_letters_in : PySem.W.keepIn K (.ref f_letters_in) = true)
    (a_place_count : PySem.W.nsIn K mainGlobals "place_count" = some (some (.ref f_place_count)))
    (l_place_count : K.lookup f_place_count = some ⟨oc_place_count, od_place_count, .func (PySem.W.fnOf "place_count" "place_count" (defArgs s_place_count) (defBody s_place_count) (defScope s_place_count) .none kV_place_count dc_place_count pm_place_count an_place_count (.ref c_place_count) ct_place_count), sl_place_count⟩)
    (h_place_count : PySem.W.codeIn K (.ref c_place_count) "place_count" = true)
    (k_place_count : PySem.W.keepIn K (.ref f_place_count) = true)
    (r_place_count : ((recsOf q).any fun e => e.name == "place_count") = true)
    (a_length : PySem.W.nsIn K mainGlobals "length" = some (some (.ref f_length)))
    (l_length : K.lookup f_length = some ⟨oc_length, od_length, .func (PySem.W.fnOf "length" "length" (defArgs s_length) (defBody s_length) (defScope s_length) .none kV_length dc_length pm_length an_length (.ref c_length) ct_length), sl_length⟩)
    (h_length : PySem.W.codeIn K (.ref c_length) "length" = true)
    (k_length : PySem.W.keepIn K (.ref f_length) = true)
    (a_spelled : PySem.W.nsIn K mainGlobals "spelled" = some (some (.ref f_spelled)))
    (l_spelled : K.lookup f_spelled = some ⟨oc_spelled, od_spelled, .func (PySem.W.fnOf "spelled" "spelled" (defArgs s_spelled) (defBody s_spelled) (defScope s_spelled) .none kV_spelled dc_spelled pm_spelled an_spelled (.ref c_spelled) ct_spelled), sl_spelled⟩)
    (h_spelled : PySem.W.codeIn K (.ref c_spelled) "spelled" = true)
    (k_spelled : PySem.W.keepIn K (.ref f_spelled) = true)
    (a_in_row : PySem.W.nsIn K mainGlobals "in_row" = some (some (.ref f_in_row)))
    (l_in_row : K.lookup f_in_row = some ⟨oc_in_row, od_in_row, .func (PySem.W.fnOf "in_row" "in_row" (defArgs s_in_row) (defBody s_in_row) (defScope s_in_row) .none kV_in_row dc_in_row pm_in_row an_in_row (.ref c_in_row) ct_in_row), sl_in_row⟩)
    (h_in_row : PySem.W.codeIn K (.ref c_in_row) "in_row" = true)
    (k_in_row : PySem.W.keepIn K (.ref f_in_row) = true)
    (a_written : PySem.W.nsIn K mainGlobals "written" = some (some (.ref f_written)))
    (l_written : K.lookup f_written = some ⟨oc_written, od_written, .func (PySem.W.fnOf "written" "written" (defArgs s_written) (defBody s_written) (defScope s_written) .none kV_written dc_written pm_written an_written (.ref c_written) ct_written), sl_written⟩)
    (h_written : PySem.W.codeIn K (.ref c_written) "written" = true)
    (k_written : PySem.W.keepIn K (.ref f_written) = true)
    (r_written : ((recsOf q).any fun e => e.name == "written") = true)
    (a_law_begun : PySem.W.nsIn K mainGlobals "_law_begun" = some (some (.ref f_law_begun)))
    (l_law_begun : K.lookup f_law_begun = some ⟨oc_law_begun, od_law_begun, .func (PySem.W.fnOf "_law_begun" "_law_begun" (defArgs s_law_begun) (defBody s_law_begun) (defScope s_law_begun) .none kV_law_begun dc_law_begun pm_law_begun an_law_begun (.ref c_law_begun) ct_law_begun), sl_law_begun⟩)
    (h_law_begun : PySem.W.codeIn K (.ref c_law_begun) "_law_begun" = true)
    (k_law_begun : PySem.W.keepIn K (.ref f_law_begun) = true)
    (a_law_mixed : PySem.W.nsIn K mainGlobals "_law_mixed" = some (some (.ref f_law_mixed)))
    (l_law_mixed : K.lookup f_law_mixed = some ⟨oc_law_mixed, od_law_mixed, .func (PySem.W.fnOf "_law_mixed" "_law_mixed" (defArgs s_law_mixed) (defBody s_law_mixed) (defScope s_law_mixed) .none kV_law_mixed dc_law_mixed pm_law_mixed an_law_mixed (.ref c_law_mixed) ct_law_mixed), sl_law_mixed⟩)
    (h_law_mixed : PySem.W.codeIn K (.ref c_law_mixed) "_law_mixed" = true)
    (k_law_mixed : PySem.W.keepIn K (.ref f_law_mixed) = true)
    (a_law_take : PySem.W.nsIn K mainGlobals "_law_take" = some (some (.ref f_law_take)))
    (l_law_take : K.lookup f_law_take = some ⟨oc_law_take, od_law_take, .func (PySem.W.fnOf "_law_take" "_law_take" (defArgs s_law_take) (defBody s_law_take) (defScope s_law_take) .none kV_law_take dc_law_take pm_law_take an_law_take (.ref c_law_take) ct_law_take), sl_law_take⟩)
    (h_law_take : PySem.W.codeIn K (.ref c_law_take) "_law_take" = true)
    (k_law_take : PySem.W.keepIn K (.ref f_law_take) = true)
    (a_law_pick : PySem.W.nsIn K mainGlobals "_law_pick" = some (some (.ref f_law_pick)))
    (l_law_pick : K.lookup f_law_pick = some ⟨oc_law_pick, od_law_pick, .func (PySem.W.fnOf "_law_pick" "_law_pick" (defArgs s_law_pick) (defBody s_law_pick) (defScope s_law_pick) .none kV_law_pick dc_law_pick pm_law_pick an_law_pick (.ref c_law_pick) ct_law_pick), sl_law_pick⟩)
    (h_law_pick : PySem.W.codeIn K (.ref c_law_pick) "_law_pick" = true)
    (k_law_pick : PySem.W.keepIn K (.ref f_law_pick) = true)
    (a_law_shuffled : PySem.W.nsIn K mainGlobals "_law_shuffled" = some (some (.ref f_law_shuffled)))
    (l_law_shuffled : K.lookup f_law_shuffled = some ⟨oc_law_shuffled, od_law_shuffled, .func (PySem.W.fnOf "_law_shuffled" "_law_shuffled" (defArgs s_law_shuffled) (defBody s_law_shuffled) (defScope s_law_shuffled) .none kV_law_shuffled dc_law_shuffled pm_law_shuffled an_law_shuffled (.ref c_law_shuffled) ct_law_shuffled), sl_law_shuffled⟩)
    (h_law_shuffled : PySem.W.codeIn K (.ref c_law_shuffled) "_law_shuffled" = true)
    (k_law_shuffled : PySem.W.keepIn K (.ref f_law_shuffled) = true)
    (a_law_caught : PySem.W.nsIn K mainGlobals "_law_caught" = some (some (.ref f_law_caught)))
    (l_law_caught : K.lookup f_law_caught = some ⟨oc_law_caught, od_law_caught, .func (PySem.W.fnOf "_law_caught" "_law_caught" (defArgs s_law_caught) (defBody s_law_caught) (defScope s_law_caught) .none kV_law_caught dc_law_caught pm_law_caught an_law_caught (.ref c_law_caught) ct_law_caught), sl_law_caught⟩)
    (h_law_caught : PySem.W.codeIn K (.ref c_law_caught) "_law_caught" = true)
    (k_law_caught : PySem.W.keepIn K (.ref f_law_caught) = true)
    (a_law_names : PySem.W.nsIn K mainGlobals "_law_names" = some (some (.ref f_law_names)))
    (l_law_names : K.lookup f_law_names = some ⟨oc_law_names, od_law_names, .func (PySem.W.fnOf "_law_names" "_law_names" (defArgs s_law_names) (defBody s_law_names) (defScope s_law_names) .none kV_law_names dc_law_names pm_law_names an_law_names (.ref c_law_names) ct_law_names), sl_law_names⟩)
    (h_law_names : PySem.W.codeIn K (.ref c_law_names) "_law_names" = true)
    (k_law_names : PySem.W.keepIn K (.ref f_law_names) = true)
    (a_law_scope : PySem.W.nsIn K mainGlobals "_law_scope" = some (some (.ref f_law_scope)))
    (l_law_scope : K.lookup f_law_scope = some ⟨oc_law_scope, od_law_scope, .func (PySem.W.fnOf "_law_scope" "_law_scope" (defArgs s_law_scope) (defBody s_law_scope) (defScope s_law_scope) .none kV_law_scope dc_law_scope pm_law_scope an_law_scope (.ref c_law_scope) ct_law_scope), sl_law_scope⟩)
    (h_law_scope : PySem.W.codeIn K (.ref c_law_scope) "_law_scope" = true)
    (k_law_scope : PySem.W.keepIn K (.ref f_law_scope) = true)
    (a_law_letters : PySem.W.nsIn K mainGlobals "_law_letters" = some (some (.ref f_law_letters)))
    (l_law_letters : K.lookup f_law_letters = some ⟨oc_law_letters, od_law_letters, .func (PySem.W.fnOf "_law_letters" "_law_letters" (defArgs s_law_letters) (defBody s_law_letters) (defScope s_law_letters) .none kV_law_letters dc_law_letters pm_law_letters an_law_letters (.ref c_law_letters) ct_law_letters), sl_law_letters⟩)
    (h_law_letters : PySem.W.codeIn K (.ref c_law_letters) "_law_letters" = true)
    (k_law_letters : PySem.W.keepIn K (.ref f_law_letters) = true)
    (a_law_once : PySem.W.nsIn K mainGlobals "_law_once" = some (some (.ref f_law_once)))
    (l_law_once : K.lookup f_law_once = some ⟨oc_law_once, od_law_once, .func (PySem.W.fnOf "_law_once" "_law_once" (defArgs s_law_once) (defBody s_law_once) (defScope s_law_once) .none kV_law_once dc_law_once pm_law_once an_law_once (.ref c_law_once) ct_law_once), sl_law_once⟩)
    (h_law_once : PySem.W.codeIn K (.ref c_law_once) "_law_once" = true)
    (k_law_once : PySem.W.keepIn K (.ref f_law_once) = true)
    (a_law_weave : PySem.W.nsIn K mainGlobals "_law_weave" = some (some (.ref f_law_weave)))
    (l_law_weave : K.lookup f_law_weave = some ⟨oc_law_weave, od_law_weave, .func (PySem.W.fnOf "_law_weave" "_law_weave" (defArgs s_law_weave) (defBody s_law_weave) (defScope s_law_weave) .none kV_law_weave dc_law_weave pm_law_weave an_law_weave (.ref c_law_weave) ct_law_weave), sl_law_weave⟩)
    (h_law_weave : PySem.W.codeIn K (.ref c_law_weave) "_law_weave" = true)
    (k_law_weave : PySem.W.keepIn K (.ref f_law_weave) = true)
    (a_law_inner : PySem.W.nsIn K mainGlobals "_law_inner" = some (some (.ref f_law_inner)))
    (l_law_inner : K.lookup f_law_inner = some ⟨oc_law_inner, od_law_inner, .func (PySem.W.fnOf "_law_inner" "_law_inner" (defArgs s_law_inner) (defBody s_law_inner) (defScope s_law_inner) .none kV_law_inner dc_law_inner pm_law_inner an_law_inner (.ref c_law_inner) ct_law_inner), sl_law_inner⟩)
    (h_law_inner : PySem.W.codeIn K (.ref c_law_inner) "_law_inner" = true)
    (k_law_inner : PySem.W.keepIn K (.ref f_law_inner) = true)
    (a_law_nodes : PySem.W.nsIn K mainGlobals "_law_nodes" = some (some (.ref f_law_nodes)))
    (l_law_nodes : K.lookup f_law_nodes = some ⟨oc_law_nodes, od_law_nodes, .func (PySem.W.fnOf "_law_nodes" "_law_nodes" (defArgs s_law_nodes) (defBody s_law_nodes) (defScope s_law_nodes) .none kV_law_nodes dc_law_nodes pm_law_nodes an_law_nodes (.ref c_law_nodes) ct_law_nodes), sl_law_nodes⟩)
    (h_law_nodes : PySem.W.codeIn K (.ref c_law_nodes) "_law_nodes" = true)
    (k_law_nodes : PySem.W.keepIn K (.ref f_law_nodes) = true)
    (a_law_at : PySem.W.nsIn K mainGlobals "_law_at" = some (some (.ref f_law_at)))
    (l_law_at : K.lookup f_law_at = some ⟨oc_law_at, od_law_at, .func (PySem.W.fnOf "_law_at" "_law_at" (defArgs s_law_at) (defBody s_law_at) (defScope s_law_at) .none kV_law_at dc_law_at pm_law_at an_law_at (.ref c_law_at) ct_law_at), sl_law_at⟩)
    (h_law_at : PySem.W.codeIn K (.ref c_law_at) "_law_at" = true)
    (k_law_at : PySem.W.keepIn K (.ref f_law_at) = true)
    (a_law_told : PySem.W.nsIn K mainGlobals "_law_told" = some (some (.ref f_law_told)))
    (l_law_told : K.lookup f_law_told = some ⟨oc_law_told, od_law_told, .func (PySem.W.fnOf "_law_told" "_law_told" (defArgs s_law_told) (defBody s_law_told) (defScope s_law_told) .none kV_law_told dc_law_told pm_law_told an_law_told (.ref c_law_told) ct_law_told), sl_law_told⟩)
    (h_law_told : PySem.W.codeIn K (.ref c_law_told) "_law_told" = true)
    (k_law_told : PySem.W.keepIn K (.ref f_law_told) = true)
    (a_law_bad_weave : PySem.W.nsIn K mainGlobals "_law_bad_weave" = some (some (.ref f_law_bad_weave)))
    (l_law_bad_weave : K.lookup f_law_bad_weave = some ⟨oc_law_bad_weave, od_law_bad_weave, .func (PySem.W.fnOf "_law_bad_weave" "_law_bad_weave" (defArgs s_law_bad_weave) (defBody s_law_bad_weave) (defScope s_law_bad_weave) .none kV_law_bad_weave dc_law_bad_weave pm_law_bad_weave an_law_bad_weave (.ref c_law_bad_weave) ct_law_bad_weave), sl_law_bad_weave⟩)
    (h_law_bad_weave : PySem.W.codeIn K (.ref c_law_bad_weave) "_law_bad_weave" = true)
    (k_law_bad_weave : PySem.W.keepIn K (.ref f_law_bad_weave) = true)
    (a_law : PySem.W.nsIn K mainGlobals "law" = some (some (.ref f_law)))
    (l_law : K.lookup f_law = some ⟨oc_law, od_law, .func (PySem.W.fnOf "law" "law" (defArgs s_law) (defBody s_law) (defScope s_law) .none kV_law dc_law pm_law an_law (.ref c_law) ct_law), sl_law⟩)
    (h_law : PySem.W.codeIn K (.ref c_law) "law" = true)
    (k_law : PySem.W.keepIn K (.ref f_law) = true)
    (z_abs : PySem.W.nsIn K mainGlobals "abs" = some none)
    (z_all : PySem.W.nsIn K mainGlobals "all" = some none)
    (z_enumerate : PySem.W.nsIn K mainGlobals "enumerate" = some none)
    (z_int : PySem.W.nsIn K mainGlobals "int" = some none)
    (z_isinstance : PySem.W.nsIn K mainGlobals "isinstance" = some none)
    (z_len : PySem.W.nsIn K mainGlobals "len" = some none)
    (z_list : PySem.W.nsIn K mainGlobals "list" = some none)
    (z_min : PySem.W.nsIn K mainGlobals "min" = some none)
    (z_range : PySem.W.nsIn K mainGlobals "range" = some none)
    (z_repr : PySem.W.nsIn K mainGlobals "repr" = some none)
    (z_reversed : PySem.W.nsIn K mainGlobals "reversed" = some none)
    (z_sorted : PySem.W.nsIn K mainGlobals "sorted" = some none)
    (z_str : PySem.W.nsIn K mainGlobals "str" = some none)
    (z_sum : PySem.W.nsIn K mainGlobals "sum" = some none)
    (z_tuple : PySem.W.nsIn K mainGlobals "tuple" = some none)
    (x_KEPT : PySem.W.nsIn K mainGlobals "KEPT" = some (some (.ref o_KEPT)))
    (y_KEPT : K.lookup o_KEPT = some ⟨.type "tuple", dd_KEPT, .seq vs_KEPT n_KEPT, sl_KEPT⟩)
    (x_LETTERS_OF_NAMES : PySem.W.nsIn K mainGlobals "LETTERS_OF_NAMES" = some (some (.str "abcdefghijklmnopqrstuvwxyz" t_LETTERS_OF_NAMES)))
    (x_MOST_NODES : PySem.W.nsIn K mainGlobals "MOST_NODES" = some (some (.int 400 t_MOST_NODES)))
    (x_MOST_DEEP : PySem.W.nsIn K mainGlobals "MOST_DEEP" = some (some (.int 60 t_MOST_DEEP)))
    (x_SHAPES : PySem.W.nsIn K mainGlobals "SHAPES" = some (some (.ref o_SHAPES)))
    (y_SHAPES : K.lookup o_SHAPES = some ⟨.type "dict", none, .dict es_SHAPES n_SHAPES, #[]⟩)
    (x_OrderError : PySem.W.nsIn K mainGlobals "OrderError" = some (some (.ref o_OrderError)))
    (x_BadLetters : PySem.W.nsIn K mainGlobals "BadLetters" = some (some (.ref o_BadLetters)))
    (x_BadScope : PySem.W.nsIn K mainGlobals "BadScope" = some (some (.ref o_BadScope)))
    (x_BadWeave : PySem.W.nsIn K mainGlobals "BadWeave" = some (some (.ref o_BadWeave)))
    (x_NotFinite : PySem.W.nsIn K mainGlobals "NotFinite" = some (some (.ref o_NotFinite)))
    (r_law : ((recsOf q).any fun e => e.name == "law") = true)
    (dis : Al.tabsApart K [c_is_ascending, c_is_name, c_is_scope, c_is_letter, c_node_count, c_place_count, c_written] c_law = true)
    (zz_KEPT : vs_KEPT.size ≤ 1000)
    (st_KEPT : Al.StrsOf vs_KEPT.toList kept)
    (kl_SHAPES : PySem.W.KeysLit w.params es_SHAPES.toList)
    (en_SHAPES : Al.EntsOf es_SHAPES.toList shapes)
    (lo_SHAPES : (o_SHAPES == sysModules) = false)
    (e1_BadScope : PySem.W.excIn K o_BadScope [.type "ValueError", .type "Exception", .type "BaseException", .type "object"] "ValueError.__new__" = true)
    (e2_BadScope : PySem.W.keepIn K (.ref o_BadScope) = true)
    (e3_BadScope : PySem.W.subIn K (.ref o_BadScope) (.type "BaseException") = some true)
    (e4_BadScope : PySem.W.typeIn K (.ref o_BadScope) = some (.type "type"))
    (e5_BadScope : PySem.W.exmOne K (.ref o_BadScope) (.ref o_OrderError) = some true)
    (e6_BadScope : PySem.W.findIn K (.ref o_BadScope) "__getattribute__" = some (some (.builtin "BaseException.__getattribute__")))
    (e7_BadScope : PySem.W.findIn K (.ref o_BadScope) "__getattr__" = some none)
    (e8_BadScope : PySem.W.hasDictIn K o_BadScope = true)
    (e9_BadScope : PySem.W.findIn K (.ref o_BadScope) "__class__" = some (some (.builtin "object.__class__")))
    (e10_BadScope : PySem.W.specialIn K (.builtin "object.__class__") "__get__" = some (some (.builtin "getset_descriptor.__get__")))
    (e11_BadScope : PySem.W.takesIn K (.builtin "object.__class__") = some true)
    (e12_BadScope : PySem.W.mroIn K o_BadScope (.type "object") = some true)
    (e1_BadWeave : PySem.W.excIn K o_BadWeave [.type "ValueError", .type "Exception", .type "BaseException", .type "object"] "ValueError.__new__" = true)
    (e2_BadWeave : PySem.W.keepIn K (.ref o_BadWeave) = true)
    (e3_BadWeave : PySem.W.subIn K (.ref o_BadWeave) (.type "BaseException") = some true)
    (e4_BadWeave : PySem.W.typeIn K (.ref o_BadWeave) = some (.type "type"))
    (e5_BadWeave : PySem.W.exmOne K (.ref o_BadWeave) (.ref o_OrderError) = some true)
    (e6_BadWeave : PySem.W.findIn K (.ref o_BadWeave) "__getattribute__" = some (some (.builtin "BaseException.__getattribute__")))
    (e7_BadWeave : PySem.W.findIn K (.ref o_BadWeave) "__getattr__" = some none)
    (e8_BadWeave : PySem.W.hasDictIn K o_BadWeave = true)
    (e9_BadWeave : PySem.W.findIn K (.ref o_BadWeave) "__class__" = some (some (.builtin "object.__class__")))
    (e10_BadWeave : PySem.W.specialIn K (.builtin "object.__class__") "__get__" = some (some (.builtin "getset_descriptor.__get__")))
    (e11_BadWeave : PySem.W.takesIn K (.builtin "object.__class__") = some true)
    (e12_BadWeave : PySem.W.mroIn K o_BadWeave (.type "object") = some true)
    (e1_NotFinite : PySem.W.excIn K o_NotFinite [.type "ValueError", .type "Exception", .type "BaseException", .type "object"] "ValueError.__new__" = true)
    (e2_NotFinite : PySem.W.keepIn K (.ref o_NotFinite) = true)
    (e3_NotFinite : PySem.W.subIn K (.ref o_NotFinite) (.type "BaseException") = some true)
    (e4_NotFinite : PySem.W.typeIn K (.ref o_NotFinite) = some (.type "type"))
    (e5_NotFinite : PySem.W.exmOne K (.ref o_NotFinite) (.ref o_OrderError) = some true)
    (e6_NotFinite : PySem.W.findIn K (.ref o_NotFinite) "__getattribute__" = some (some (.builtin "BaseException.__getattribute__")))
    (e7_NotFinite : PySem.W.findIn K (.ref o_NotFinite) "__getattr__" = some none)
    (e8_NotFinite : PySem.W.hasDictIn K o_NotFinite = true)
    (e9_NotFinite : PySem.W.findIn K (.ref o_NotFinite) "__class__" = some (some (.builtin "object.__class__")))
    (e10_NotFinite : PySem.W.specialIn K (.builtin "object.__class__") "__get__" = some (some (.builtin "getset_descriptor.__get__")))
    (e11_NotFinite : PySem.W.takesIn K (.builtin "object.__class__") = some true)
    (e12_NotFinite : PySem.W.mroIn K o_NotFinite (.type "object") = some true)
    (e1_BadLetters : PySem.W.excIn K o_BadLetters [.type "ValueError", .type "Exception", .type "BaseException", .type "object"] "ValueError.__new__" = true)
    (e2_BadLetters : PySem.W.keepIn K (.ref o_BadLetters) = true)
    (e3_BadLetters : PySem.W.subIn K (.ref o_BadLetters) (.type "BaseException") = some true)
    (e4_BadLetters : PySem.W.typeIn K (.ref o_BadLetters) = some (.type "type"))
    (e5_BadLetters : PySem.W.exmOne K (.ref o_BadLetters) (.ref o_OrderError) = some true)
    (e6_BadLetters : PySem.W.findIn K (.ref o_BadLetters) "__getattribute__" = some (some (.builtin "BaseException.__getattribute__")))
    (e7_BadLetters : PySem.W.findIn K (.ref o_BadLetters) "__getattr__" = some none)
    (e8_BadLetters : PySem.W.hasDictIn K o_BadLetters = true)
    (e9_BadLetters : PySem.W.findIn K (.ref o_BadLetters) "__class__" = some (some (.builtin "object.__class__")))
    (e10_BadLetters : PySem.W.specialIn K (.builtin "object.__class__") "__get__" = some (some (.builtin "getset_descriptor.__get__")))
    (e11_BadLetters : PySem.W.takesIn K (.builtin "object.__class__") = some true)
    (e12_BadLetters : PySem.W.mroIn K o_BadLetters (.type "object") = some true)
    : Al.LawAtG l w K 63 "script" mg fa h := by
  have e := hfa.symm.trans (PySem.W.mg_of KX G a_law)
  cases e
  have F_is_ascending := funT_mk (st := s_is_ascending) l_is_ascending h_is_ascending k_is_ascending
  obtain ⟨p_is_ascending, T_is_ascending⟩ := own "is_ascending" f_is_ascending r_is_ascending (PySem.W.mg_of KX G a_is_ascending) c_is_ascending _ _ l_is_ascending rfl rfl
  have n_is_ascending := no_tab hno KX T_is_ascending.1
  have F_head_of := funT_mk (st := s_head_of) l_head_of h_head_of k_head_of
  have F_is_name := funT_mk (st := s_is_name) l_is_name h_is_name k_is_name
  obtain ⟨p_is_name, T_is_name⟩ := own "is_name" f_is_name r_is_name (PySem.W.mg_of KX G a_is_name) c_is_name _ _ l_is_name rfl rfl
  have n_is_name := no_tab hno KX T_is_name.1
  have F_is_scope := funT_mk (st := s_is_scope) l_is_scope h_is_scope k_is_scope
  obtain ⟨p_is_scope, T_is_scope⟩ := own "is_scope" f_is_scope r_is_scope (PySem.W.mg_of KX G a_is_scope) c_is_scope _ _ l_is_scope rfl rfl
  have n_is_scope := no_tab hno KX T_is_scope.1
  have F_need_scope := funT_mk (st := s_need_scope) l_need_scope h_need_scope k_need_scope
  have F_letter_row := funT_mk (st := s_letter_row) l_letter_row h_letter_row k_letter_row
  have F_is_letter := funT_mk (st := s_is_letter) l_is_letter h_is_letter k_is_letter
  obtain ⟨p_is_letter, T_is_letter⟩ := own "is_letter" f_is_letter r_is_letter (PySem.W.mg_of KX G a_is_letter) c_is_letter _ _ l_is_letter rfl rfl
  have n_is_letter := no_tab hno KX T_is_letter.1
  have F_parts_of := funT_mk (st := s_parts_of) l_parts_of h_parts_of k_parts_of
  have F_is_knot := funT_mk (st := s_is_knot) l_is_knot h_is_knot k_is_knot
  have F_nodes_at_most := funT_mk (st := s_nodes_at_most) l_nodes_at_most h_nodes_at_most k_nodes_at_most
  have F_is_weave := funT_mk (st := s_is_weave) l_is_weave h_is_weave k_is_weave
  have F_need_weave := funT_mk (st := s_need_weave) l_need_weave h_need_weave k_need_weave
  have F_node_count := funT_mk (st := s_node_count) l_node_count h_node_count k_node_count
  obtain ⟨p_node_count, T_node_count⟩ := own "node_count" f_node_count r_node_count (PySem.W.mg_of KX G a_node_count) c_node_count _ _ l_node_count rfl rfl
  have n_node_count := no_tab hno KX T_node_count.1
  have F_size := funT_mk (st := s_size) l_size h_size k_size
  have F_letters_below := funT_mk (st := s_letters_below) l_letters_below h_letters_below k_letters_below
  have F_letters_in := funT_mk (st := s_letters_in) l_letters_in h_letters_in k_letters_in
  have F_place_count := funT_mk (st := s_place_count) l_place_count h_place_count k_place_count
  obtain ⟨p_place_count, T_place_count⟩ := own "place_count" f_place_count r_place_count (PySem.W.mg_of KX G a_place_count) c_place_count _ _ l_place_count rfl rfl
  have n_place_count := no_tab hno KX T_place_count.1
  have F_length := funT_mk (st := s_length) l_length h_length k_length
  have F_spelled := funT_mk (st := s_spelled) l_spelled h_spelled k_spelled
  have F_in_row := funT_mk (st := s_in_row) l_in_row h_in_row k_in_row
  have F_written := funT_mk (st := s_written) l_written h_written k_written
  obtain ⟨p_written, T_written⟩ := own "written" f_written r_written (PySem.W.mg_of KX G a_written) c_written _ _ l_written rfl rfl
  have n_written := no_tab hno KX T_written.1
  have F_law_begun := funT_mk (st := s_law_begun) l_law_begun h_law_begun k_law_begun
  have F_law_mixed := funT_mk (st := s_law_mixed) l_law_mixed h_law_mixed k_law_mixed
  have F_law_take := funT_mk (st := s_law_take) l_law_take h_law_take k_law_take
  have F_law_pick := funT_mk (st := s_law_pick) l_law_pick h_law_pick k_law_pick
  have F_law_shuffled := funT_mk (st := s_law_shuffled) l_law_shuffled h_law_shuffled k_law_shuffled
  have F_law_caught := funT_mk (st := s_law_caught) l_law_caught h_law_caught k_law_caught
  have F_law_names := funT_mk (st := s_law_names) l_law_names h_law_names k_law_names
  have F_law_scope := funT_mk (st := s_law_scope) l_law_scope h_law_scope k_law_scope
  have F_law_letters := funT_mk (st := s_law_letters) l_law_letters h_law_letters k_law_letters
  have F_law_once := funT_mk (st := s_law_once) l_law_once h_law_once k_law_once
  have F_law_weave := funT_mk (st := s_law_weave) l_law_weave h_law_weave k_law_weave
  have F_law_inner := funT_mk (st := s_law_inner) l_law_inner h_law_inner k_law_inner
  have F_law_nodes := funT_mk (st := s_law_nodes) l_law_nodes h_law_nodes k_law_nodes
  have F_law_at := funT_mk (st := s_law_at) l_law_at h_law_at k_law_at
  have F_law_told := funT_mk (st := s_law_told) l_law_told h_law_told k_law_told
  have F_law_bad_weave := funT_mk (st := s_law_bad_weave) l_law_bad_weave h_law_bad_weave k_law_bad_weave
  have F_law := funT_mk (st := s_law) l_law h_law k_law
  obtain ⟨p_law, T_law⟩ := own "law" fa r_law (PySem.W.mg_of KX G a_law) c_law _ _ l_law rfl rfl
  have n_law := no_tab hno KX T_law.1
  let A0 : Ad := { f_is_ascending := f_is_ascending, c_is_ascending := c_is_ascending, p_is_ascending := p_is_ascending, f_head_of := f_head_of, c_head_of := c_head_of, p_head_of := 0, f_is_name := f_is_name, c_is_name := c_is_name, p_is_name := p_is_name, f_is_scope := f_is_scope, c_is_scope := c_is_scope, p_is_scope := p_is_scope, f_need_scope := f_need_scope, c_need_scope := c_need_scope, p_need_scope := 0, f_letter_row := f_letter_row, c_letter_row := c_letter_row, p_letter_row := 0, f_is_letter := f_is_letter, c_is_letter := c_is_letter, p_is_letter := p_is_letter, f_parts_of := f_parts_of, c_parts_of := c_parts_of, p_parts_of := 0, f_is_knot := f_is_knot, c_is_knot := c_is_knot, p_is_knot := 0, f_nodes_at_most := f_nodes_at_most, c_nodes_at_most := c_nodes_at_most, p_nodes_at_most := 0, f_is_weave := f_is_weave, c_is_weave := c_is_weave, p_is_weave := 0, f_need_weave := f_need_weave, c_need_weave := c_need_weave, p_need_weave := 0, f_node_count := f_node_count, c_node_count := c_node_count, p_node_count := p_node_count, f_size := f_size, c_size := c_size, p_size := 0, f_letters_below := f_letters_below, c_letters_below := c_letters_below, p_letters_below := 0, f_letters_in := f_letters_in, c_letters_in := c_letters_in, p_letters_in := 0, f_place_count := f_place_count, c_place_count := c_place_count, p_place_count := p_place_count, f_length := f_length, c_length := c_length, p_length := 0, f_spelled := f_spelled, c_spelled := c_spelled, p_spelled := 0, f_in_row := f_in_row, c_in_row := c_in_row, p_in_row := 0, f_written := f_written, c_written := c_written, p_written := p_written, f_law_begun := f_law_begun, c_law_begun := c_law_begun, p_law_begun := 0, f_law_mixed := f_law_mixed, c_law_mixed := c_law_mixed, p_law_mixed := 0, f_law_take := f_law_take, c_law_take := c_law_take, p_law_take := 0, f_law_pick := f_law_pick, c_law_pick := c_law_pick, p_law_pick := 0, f_law_shuffled := f_law_shuffled, c_law_shuffled := c_law_shuffled, p_law_shuffled := 0, f_law_caught := f_law_caught, c_law_caught := c_law_caught, p_law_caught := 0, f_law_names := f_law_names, c_law_names := c_law_names, p_law_names := 0, f_law_scope := f_law_scope, c_law_scope := c_law_scope, p_law_scope := 0, f_law_letters := f_law_letters, c_law_letters := c_law_letters, p_law_letters := 0, f_law_once := f_law_once, c_law_once := c_law_once, p_law_once := 0, f_law_weave := f_law_weave, c_law_weave := c_law_weave, p_law_weave := 0, f_law_inner := f_law_inner, c_law_inner := c_law_inner, p_law_inner := 0, f_law_nodes := f_law_nodes, c_law_nodes := c_law_nodes, p_law_nodes := 0, f_law_at := f_law_at, c_law_at := c_law_at, p_law_at := 0, f_law_told := f_law_told, c_law_told := c_law_told, p_law_told := 0, f_law_bad_weave := f_law_bad_weave, c_law_bad_weave := c_law_bad_weave, p_law_bad_weave := 0, f_law := fa, c_law := c_law, p_law := 0, d_is_ascending := PySem.W.fnOf "is_ascending" "is_ascending" (defArgs s_is_ascending) (defBody s_is_ascending) (defScope s_is_ascending) .none kV_is_ascending dc_is_ascending pm_is_ascending an_is_ascending (.ref c_is_ascending) ct_is_ascending, d_head_of := PySem.W.fnOf "head_of" "head_of" (defArgs s_head_of) (defBody s_head_of) (defScope s_head_of) .none kV_head_of dc_head_of pm_head_of an_head_of (.ref c_head_of) ct_head_of, d_is_name := PySem.W.fnOf "is_name" "is_name" (defArgs s_is_name) (defBody s_is_name) (defScope s_is_name) .none kV_is_name dc_is_name pm_is_name an_is_name (.ref c_is_name) ct_is_name, d_is_scope := PySem.W.fnOf "is_scope" "is_scope" (defArgs s_is_scope) (defBody s_is_scope) (defScope s_is_scope) .none kV_is_scope dc_is_scope pm_is_scope an_is_scope (.ref c_is_scope) ct_is_scope, d_need_scope := PySem.W.fnOf "need_scope" "need_scope" (defArgs s_need_scope) (defBody s_need_scope) (defScope s_need_scope) .none kV_need_scope dc_need_scope pm_need_scope an_need_scope (.ref c_need_scope) ct_need_scope, d_letter_row := PySem.W.fnOf "letter_row" "letter_row" (defArgs s_letter_row) (defBody s_letter_row) (defScope s_letter_row) .none kV_letter_row dc_letter_row pm_letter_row an_letter_row (.ref c_letter_row) ct_letter_row, d_is_letter := PySem.W.fnOf "is_letter" "is_letter" (defArgs s_is_letter) (defBody s_is_letter) (defScope s_is_letter) .none kV_is_letter dc_is_letter pm_is_letter an_is_letter (.ref c_is_letter) ct_is_letter, d_parts_of := PySem.W.fnOf "parts_of" "parts_of" (defArgs s_parts_of) (defBody s_parts_of) (defScope s_parts_of) .none kV_parts_of dc_parts_of pm_parts_of an_parts_of (.ref c_parts_of) ct_parts_of, d_is_knot := PySem.W.fnOf "is_knot" "is_knot" (defArgs s_is_knot) (defBody s_is_knot) (defScope s_is_knot) .none kV_is_knot dc_is_knot pm_is_knot an_is_knot (.ref c_is_knot) ct_is_knot, d_nodes_at_most := PySem.W.fnOf "nodes_at_most" "nodes_at_most" (defArgs s_nodes_at_most) (defBody s_nodes_at_most) (defScope s_nodes_at_most) .none kV_nodes_at_most dc_nodes_at_most pm_nodes_at_most an_nodes_at_most (.ref c_nodes_at_most) ct_nodes_at_most, d_is_weave := PySem.W.fnOf "is_weave" "is_weave" (defArgs s_is_weave) (defBody s_is_weave) (defScope s_is_weave) .none kV_is_weave dc_is_weave pm_is_weave an_is_weave (.ref c_is_weave) ct_is_weave, d_need_weave := PySem.W.fnOf "need_weave" "need_weave" (defArgs s_need_weave) (defBody s_need_weave) (defScope s_need_weave) .none kV_need_weave dc_need_weave pm_need_weave an_need_weave (.ref c_need_weave) ct_need_weave, d_node_count := PySem.W.fnOf "node_count" "node_count" (defArgs s_node_count) (defBody s_node_count) (defScope s_node_count) .none kV_node_count dc_node_count pm_node_count an_node_count (.ref c_node_count) ct_node_count, d_size := PySem.W.fnOf "size" "size" (defArgs s_size) (defBody s_size) (defScope s_size) .none kV_size dc_size pm_size an_size (.ref c_size) ct_size, d_letters_below := PySem.W.fnOf "letters_below" "letters_below" (defArgs s_letters_below) (defBody s_letters_below) (defScope s_letters_below) .none kV_letters_below dc_letters_below pm_letters_below an_letters_below (.ref c_letters_below) ct_letters_below, d_letters_in := PySem.W.fnOf "letters_in" "letters_in" (defArgs s_letters_in) (defBody s_letters_in) (defScope s_letters_in) .none kV_letters_in dc_letters_in pm_letters_in an_letters_in (.ref c_letters_in) ct_letters_in, d_place_count := PySem.W.fnOf "place_count" "place_count" (defArgs s_place_count) (defBody s_place_count) (defScope s_place_count) .none kV_place_count dc_place_count pm_place_count an_place_count (.ref c_place_count) ct_place_count, d_length := PySem.W.fnOf "length" "length" (defArgs s_length) (defBody s_length) (defScope s_length) .none kV_length dc_length pm_length an_length (.ref c_length) ct_length, d_spelled := PySem.W.fnOf "spelled" "spelled" (defArgs s_spelled) (defBody s_spelled) (defScope s_spelled) .none kV_spelled dc_spelled pm_spelled an_spelled (.ref c_spelled) ct_spelled, d_in_row := PySem.W.fnOf "in_row" "in_row" (defArgs s_in_row) (defBody s_in_row) (defScope s_in_row) .none kV_in_row dc_in_row pm_in_row an_in_row (.ref c_in_row) ct_in_row, d_written := PySem.W.fnOf "written" "written" (defArgs s_written) (defBody s_written) (defScope s_written) .none kV_written dc_written pm_written an_written (.ref c_written) ct_written, d_law_begun := PySem.W.fnOf "_law_begun" "_law_begun" (defArgs s_law_begun) (defBody s_law_begun) (defScope s_law_begun) .none kV_law_begun dc_law_begun pm_law_begun an_law_begun (.ref c_law_begun) ct_law_begun, d_law_mixed := PySem.W.fnOf "_law_mixed" "_law_mixed" (defArgs s_law_mixed) (defBody s_law_mixed) (defScope s_law_mixed) .none kV_law_mixed dc_law_mixed pm_law_mixed an_law_mixed (.ref c_law_mixed) ct_law_mixed, d_law_take := PySem.W.fnOf "_law_take" "_law_take" (defArgs s_law_take) (defBody s_law_take) (defScope s_law_take) .none kV_law_take dc_law_take pm_law_take an_law_take (.ref c_law_take) ct_law_take, d_law_pick := PySem.W.fnOf "_law_pick" "_law_pick" (defArgs s_law_pick) (defBody s_law_pick) (defScope s_law_pick) .none kV_law_pick dc_law_pick pm_law_pick an_law_pick (.ref c_law_pick) ct_law_pick, d_law_shuffled := PySem.W.fnOf "_law_shuffled" "_law_shuffled" (defArgs s_law_shuffled) (defBody s_law_shuffled) (defScope s_law_shuffled) .none kV_law_shuffled dc_law_shuffled pm_law_shuffled an_law_shuffled (.ref c_law_shuffled) ct_law_shuffled, d_law_caught := PySem.W.fnOf "_law_caught" "_law_caught" (defArgs s_law_caught) (defBody s_law_caught) (defScope s_law_caught) .none kV_law_caught dc_law_caught pm_law_caught an_law_caught (.ref c_law_caught) ct_law_caught, d_law_names := PySem.W.fnOf "_law_names" "_law_names" (defArgs s_law_names) (defBody s_law_names) (defScope s_law_names) .none kV_law_names dc_law_names pm_law_names an_law_names (.ref c_law_names) ct_law_names, d_law_scope := PySem.W.fnOf "_law_scope" "_law_scope" (defArgs s_law_scope) (defBody s_law_scope) (defScope s_law_scope) .none kV_law_scope dc_law_scope pm_law_scope an_law_scope (.ref c_law_scope) ct_law_scope, d_law_letters := PySem.W.fnOf "_law_letters" "_law_letters" (defArgs s_law_letters) (defBody s_law_letters) (defScope s_law_letters) .none kV_law_letters dc_law_letters pm_law_letters an_law_letters (.ref c_law_letters) ct_law_letters, d_law_once := PySem.W.fnOf "_law_once" "_law_once" (defArgs s_law_once) (defBody s_law_once) (defScope s_law_once) .none kV_law_once dc_law_once pm_law_once an_law_once (.ref c_law_once) ct_law_once, d_law_weave := PySem.W.fnOf "_law_weave" "_law_weave" (defArgs s_law_weave) (defBody s_law_weave) (defScope s_law_weave) .none kV_law_weave dc_law_weave pm_law_weave an_law_weave (.ref c_law_weave) ct_law_weave, d_law_inner := PySem.W.fnOf "_law_inner" "_law_inner" (defArgs s_law_inner) (defBody s_law_inner) (defScope s_law_inner) .none kV_law_inner dc_law_inner pm_law_inner an_law_inner (.ref c_law_inner) ct_law_inner, d_law_nodes := PySem.W.fnOf "_law_nodes" "_law_nodes" (defArgs s_law_nodes) (defBody s_law_nodes) (defScope s_law_nodes) .none kV_law_nodes dc_law_nodes pm_law_nodes an_law_nodes (.ref c_law_nodes) ct_law_nodes, d_law_at := PySem.W.fnOf "_law_at" "_law_at" (defArgs s_law_at) (defBody s_law_at) (defScope s_law_at) .none kV_law_at dc_law_at pm_law_at an_law_at (.ref c_law_at) ct_law_at, d_law_told := PySem.W.fnOf "_law_told" "_law_told" (defArgs s_law_told) (defBody s_law_told) (defScope s_law_told) .none kV_law_told dc_law_told pm_law_told an_law_told (.ref c_law_told) ct_law_told, d_law_bad_weave := PySem.W.fnOf "_law_bad_weave" "_law_bad_weave" (defArgs s_law_bad_weave) (defBody s_law_bad_weave) (defScope s_law_bad_weave) .none kV_law_bad_weave dc_law_bad_weave pm_law_bad_weave an_law_bad_weave (.ref c_law_bad_weave) ct_law_bad_weave, d_law := PySem.W.fnOf "law" "law" (defArgs s_law) (defBody s_law) (defScope s_law) .none kV_law dc_law pm_law an_law (.ref c_law) ct_law, C_OrderError := o_OrderError, C_BadLetters := o_BadLetters, C_BadScope := o_BadScope, C_BadWeave := o_BadWeave, C_NotFinite := o_NotFinite, o_KEPT := o_KEPT, o_SHAPES := o_SHAPES }
  have hX : ∀ base : Heap, GxR.TabB base mg c_is_ascending p_is_ascending → GxR.TabB base mg c_is_name p_is_name → GxR.TabB base mg c_is_scope p_is_scope → GxR.TabB base mg c_is_letter p_is_letter → GxR.TabB base mg c_node_count p_node_count → GxR.TabB base mg c_place_count p_place_count → GxR.TabB base mg c_written p_written → Txt K mg base A0 := fun base B_is_ascending B_is_name B_is_scope B_is_letter B_node_count B_place_count B_written =>
    { m_abs := PySem.W.mg_none_of KX G z_abs,
      m_all := PySem.W.mg_none_of KX G z_all,
      m_enumerate := PySem.W.mg_none_of KX G z_enumerate,
      m_int := PySem.W.mg_none_of KX G z_int,
      m_isinstance := PySem.W.mg_none_of KX G z_isinstance,
      m_len := PySem.W.mg_none_of KX G z_len,
      m_list := PySem.W.mg_none_of KX G z_list,
      m_min := PySem.W.mg_none_of KX G z_min,
      m_range := PySem.W.mg_none_of KX G z_range,
      m_repr := PySem.W.mg_none_of KX G z_repr,
      m_reversed := PySem.W.mg_none_of KX G z_reversed,
      m_sorted := PySem.W.mg_none_of KX G z_sorted,
      m_str := PySem.W.mg_none_of KX G z_str,
      m_sum := PySem.W.mg_none_of KX G z_sum,
      m_tuple := PySem.W.mg_none_of KX G z_tuple,
      g_KEPT := PySem.W.mg_of KX G x_KEPT,
      g_LETTERS_OF_NAMES := ⟨_, PySem.W.mg_of KX G x_LETTERS_OF_NAMES⟩,
      g_MOST_NODES := ⟨_, PySem.W.mg_of KX G x_MOST_NODES⟩,
      g_MOST_DEEP := ⟨_, PySem.W.mg_of KX G x_MOST_DEEP⟩,
      g_SHAPES := PySem.W.mg_of KX G x_SHAPES,
      g_OrderError := PySem.W.mg_of KX G x_OrderError,
      g_BadLetters := PySem.W.mg_of KX G x_BadLetters,
      g_BadScope := PySem.W.mg_of KX G x_BadScope,
      g_BadWeave := PySem.W.mg_of KX G x_BadWeave,
      g_NotFinite := PySem.W.mg_of KX G x_NotFinite,
      F_is_ascending := F_is_ascending,
      g_is_ascending := PySem.W.mg_of KX G a_is_ascending,
      b_is_ascending := F_is_ascending.binds (ps := ["row"]) fun _ _ _ _ _ _ us hl => match us, hl with | [_], _ => rfl,
      B_is_ascending := B_is_ascending,
      F_head_of := F_head_of,
      g_head_of := PySem.W.mg_of KX G a_head_of,
      b_head_of := F_head_of.binds (ps := ["thing"]) fun _ _ _ _ _ _ us hl => match us, hl with | [_], _ => rfl,
      F_is_name := F_is_name,
      g_is_name := PySem.W.mg_of KX G a_is_name,
      b_is_name := F_is_name.binds (ps := ["thing"]) fun _ _ _ _ _ _ us hl => match us, hl with | [_], _ => rfl,
      B_is_name := B_is_name,
      F_is_scope := F_is_scope,
      g_is_scope := PySem.W.mg_of KX G a_is_scope,
      b_is_scope := F_is_scope.binds (ps := ["thing"]) fun _ _ _ _ _ _ us hl => match us, hl with | [_], _ => rfl,
      B_is_scope := B_is_scope,
      F_need_scope := F_need_scope,
      g_need_scope := PySem.W.mg_of KX G a_need_scope,
      b_need_scope := F_need_scope.binds (ps := ["scope"]) fun _ _ _ _ _ _ us hl => match us, hl with | [_], _ => rfl,
      F_letter_row := F_letter_row,
      g_letter_row := PySem.W.mg_of KX G a_letter_row,
      b_letter_row := F_letter_row.binds (ps := ["scope"]) fun _ _ _ _ _ _ us hl => match us, hl with | [_], _ => rfl,
      F_is_letter := F_is_letter,
      g_is_letter := PySem.W.mg_of KX G a_is_letter,
      b_is_letter := F_is_letter.binds (ps := ["scope", "thing"]) fun _ _ _ _ _ _ us hl => match us, hl with | [_, _], _ => rfl,
      B_is_letter := B_is_letter,
      F_parts_of := F_parts_of,
      g_parts_of := PySem.W.mg_of KX G a_parts_of,
      b_parts_of := F_parts_of.binds (ps := ["weave"]) fun _ _ _ _ _ _ us hl => match us, hl with | [_], _ => rfl,
      F_is_knot := F_is_knot,
      g_is_knot := PySem.W.mg_of KX G a_is_knot,
      b_is_knot := F_is_knot.binds (ps := ["scope", "thing"]) fun _ _ _ _ _ _ us hl => match us, hl with | [_, _], _ => rfl,
      F_nodes_at_most := F_nodes_at_most,
      g_nodes_at_most := PySem.W.mg_of KX G a_nodes_at_most,
      b_nodes_at_most := F_nodes_at_most.binds (ps := ["scope", "thing", "deep", "most"]) fun _ _ _ _ _ _ us hl => match us, hl with | [_, _, _, _], _ => rfl,
      F_is_weave := F_is_weave,
      g_is_weave := PySem.W.mg_of KX G a_is_weave,
      b_is_weave := F_is_weave.binds (ps := ["scope", "thing"]) fun _ _ _ _ _ _ us hl => match us, hl with | [_, _], _ => rfl,
      F_need_weave := F_need_weave,
      g_need_weave := PySem.W.mg_of KX G a_need_weave,
      b_need_weave := F_need_weave.binds (ps := ["scope", "weave"]) fun _ _ _ _ _ _ us hl => match us, hl with | [_, _], _ => rfl,
      F_node_count := F_node_count,
      g_node_count := PySem.W.mg_of KX G a_node_count,
      b_node_count := F_node_count.binds (ps := ["weave"]) fun _ _ _ _ _ _ us hl => match us, hl with | [_], _ => rfl,
      B_node_count := B_node_count,
      F_size := F_size,
      g_size := PySem.W.mg_of KX G a_size,
      b_size := F_size.binds (ps := ["scope", "weave"]) fun _ _ _ _ _ _ us hl => match us, hl with | [_, _], _ => rfl,
      F_letters_below := F_letters_below,
      g_letters_below := PySem.W.mg_of KX G a_letters_below,
      b_letters_below := F_letters_below.binds (ps := ["weave"]) fun _ _ _ _ _ _ us hl => match us, hl with | [_], _ => rfl,
      F_letters_in := F_letters_in,
      g_letters_in := PySem.W.mg_of KX G a_letters_in,
      b_letters_in := F_letters_in.binds (ps := ["scope", "weave"]) fun _ _ _ _ _ _ us hl => match us, hl with | [_, _], _ => rfl,
      F_place_count := F_place_count,
      g_place_count := PySem.W.mg_of KX G a_place_count,
      b_place_count := F_place_count.binds (ps := ["weave"]) fun _ _ _ _ _ _ us hl => match us, hl with | [_], _ => rfl,
      B_place_count := B_place_count,
      F_length := F_length,
      g_length := PySem.W.mg_of KX G a_length,
      b_length := F_length.binds (ps := ["scope", "weave"]) fun _ _ _ _ _ _ us hl => match us, hl with | [_, _], _ => rfl,
      F_spelled := F_spelled,
      g_spelled := PySem.W.mg_of KX G a_spelled,
      b_spelled := F_spelled.binds (ps := ["scope", "weave"]) fun _ _ _ _ _ _ us hl => match us, hl with | [_, _], _ => rfl,
      F_in_row := F_in_row,
      g_in_row := PySem.W.mg_of KX G a_in_row,
      b_in_row := F_in_row.binds (ps := ["weaves"]) fun _ _ _ _ _ _ us hl => match us, hl with | [_], _ => rfl,
      F_written := F_written,
      g_written := PySem.W.mg_of KX G a_written,
      b_written := F_written.binds (ps := ["scope", "row"]) fun _ _ _ _ _ _ us hl => match us, hl with | [_, _], _ => rfl,
      B_written := B_written,
      F_law_begun := F_law_begun,
      g_law_begun := PySem.W.mg_of KX G a_law_begun,
      b_law_begun := F_law_begun.binds (ps := ["script"]) fun _ _ _ _ _ _ us hl => match us, hl with | [_], _ => rfl,
      F_law_mixed := F_law_mixed,
      g_law_mixed := PySem.W.mg_of KX G a_law_mixed,
      b_law_mixed := F_law_mixed.binds (ps := ["draw"]) fun _ _ _ _ _ _ us hl => match us, hl with | [_], _ => rfl,
      F_law_take := F_law_take,
      g_law_take := PySem.W.mg_of KX G a_law_take,
      b_law_take := F_law_take.binds (ps := ["draw", "many"]) fun _ _ _ _ _ _ us hl => match us, hl with | [_, _], _ => rfl,
      F_law_pick := F_law_pick,
      g_law_pick := PySem.W.mg_of KX G a_law_pick,
      b_law_pick := F_law_pick.binds (ps := ["draw", "some"]) fun _ _ _ _ _ _ us hl => match us, hl with | [_, _], _ => rfl,
      F_law_shuffled := F_law_shuffled,
      g_law_shuffled := PySem.W.mg_of KX G a_law_shuffled,
      b_law_shuffled := F_law_shuffled.binds (ps := ["draw", "some"]) fun _ _ _ _ _ _ us hl => match us, hl with | [_, _], _ => rfl,
      F_law_caught := F_law_caught,
      g_law_caught := PySem.W.mg_of KX G a_law_caught,
      b_law_caught := F_law_caught.binds (ps := ["work"]) fun _ _ _ _ _ _ us hl => match us, hl with | [_], _ => rfl,
      F_law_names := F_law_names,
      g_law_names := PySem.W.mg_of KX G a_law_names,
      b_law_names := F_law_names.binds (ps := ["draw", "many"]) fun _ _ _ _ _ _ us hl => match us, hl with | [_, _], _ => rfl,
      F_law_scope := F_law_scope,
      g_law_scope := PySem.W.mg_of KX G a_law_scope,
      b_law_scope := F_law_scope.binds (ps := ["draw", "most"]) fun _ _ _ _ _ _ us hl => match us, hl with | [_, _], _ => rfl,
      F_law_letters := F_law_letters,
      g_law_letters := PySem.W.mg_of KX G a_law_letters,
      b_law_letters := F_law_letters.binds (ps := ["scope"]) fun _ _ _ _ _ _ us hl => match us, hl with | [_], _ => rfl,
      F_law_once := F_law_once,
      g_law_once := PySem.W.mg_of KX G a_law_once,
      b_law_once := F_law_once.binds (ps := ["some"]) fun _ _ _ _ _ _ us hl => match us, hl with | [_], _ => rfl,
      F_law_weave := F_law_weave,
      g_law_weave := PySem.W.mg_of KX G a_law_weave,
      b_law_weave := F_law_weave.binds (ps := ["draw", "scope", "left"]) fun _ _ _ _ _ _ us hl => match us, hl with | [_, _, _], _ => rfl,
      F_law_inner := F_law_inner,
      g_law_inner := PySem.W.mg_of KX G a_law_inner,
      b_law_inner := F_law_inner.binds (ps := ["weave"]) fun _ _ _ _ _ _ us hl => match us, hl with | [_], _ => rfl,
      F_law_nodes := F_law_nodes,
      g_law_nodes := PySem.W.mg_of KX G a_law_nodes,
      b_law_nodes := F_law_nodes.binds (ps := ["weave"]) fun _ _ _ _ _ _ us hl => match us, hl with | [_], _ => rfl,
      F_law_at := F_law_at,
      g_law_at := PySem.W.mg_of KX G a_law_at,
      b_law_at := F_law_at.binds (ps := ["weave", "path"]) fun _ _ _ _ _ _ us hl => match us, hl with | [_, _], _ => rfl,
      F_law_told := F_law_told,
      g_law_told := PySem.W.mg_of KX G a_law_told,
      b_law_told := F_law_told.binds (ps := ["weave"]) fun _ _ _ _ _ _ us hl => match us, hl with | [_], _ => rfl,
      F_law_bad_weave := F_law_bad_weave,
      g_law_bad_weave := PySem.W.mg_of KX G a_law_bad_weave,
      b_law_bad_weave := F_law_bad_weave.binds (ps := ["draw", "scope"]) fun _ _ _ _ _ _ us hl => match us, hl with | [_, _], _ => rfl,
      F_law := F_law,
      g_law := PySem.W.mg_of KX G a_law,
      b_law := F_law.binds (ps := ["script"]) fun _ _ _ _ _ _ us hl => match us, hl with | [_], _ => rfl }
  have np : p_law ∉ T A0 := by
    have ap := Al.apart_of dis KX T_law.2
    intro hm
    have hm : p_law ∈ [p_is_ascending, p_is_name, p_is_scope, p_is_letter, p_node_count, p_place_count, p_written] := hm
    simp only [List.mem_cons, List.not_mem_nil, or_false] at hm
    rcases hm with hm | hm | hm | hm | hm | hm | hm
    · exact ap c_is_ascending (by simp) p_is_ascending T_is_ascending.2 hm
    · exact ap c_is_name (by simp) p_is_name T_is_name.2 hm
    · exact ap c_is_scope (by simp) p_is_scope T_is_scope.2 hm
    · exact ap c_is_letter (by simp) p_is_letter T_is_letter.2 hm
    · exact ap c_node_count (by simp) p_node_count T_node_count.2 hm
    · exact ap c_place_count (by simp) p_place_count T_place_count.2 hm
    · exact ap c_written (by simp) p_written T_written.2 hm
  have hk := Al.kTup_of y_KEPT zz_KEPT st_KEPT
  have hSh : Al.KInts K w o_SHAPES shapes := ⟨es_SHAPES, n_SHAPES, ⟨y_SHAPES, kl_SHAPES, lo_SHAPES⟩, en_SHAPES⟩
  have hE_BadScope : ClsF K o_BadScope o_OrderError := ⟨e1_BadScope, e2_BadScope, e3_BadScope, e4_BadScope, e5_BadScope, ⟨e6_BadScope, e7_BadScope, e3_BadScope, e8_BadScope, e9_BadScope, e10_BadScope, e11_BadScope, e12_BadScope⟩⟩
  have hkit_BadScope : PySem.W.kitOne K (.ref o_BadScope) (.ref o_BadScope) = some true := if_pos (beq_self_eq_true _)
  have hE_BadWeave : ClsF K o_BadWeave o_OrderError := ⟨e1_BadWeave, e2_BadWeave, e3_BadWeave, e4_BadWeave, e5_BadWeave, ⟨e6_BadWeave, e7_BadWeave, e3_BadWeave, e8_BadWeave, e9_BadWeave, e10_BadWeave, e11_BadWeave, e12_BadWeave⟩⟩
  have hkit_BadWeave : PySem.W.kitOne K (.ref o_BadWeave) (.ref o_BadWeave) = some true := if_pos (beq_self_eq_true _)
  have hE_NotFinite : ClsF K o_NotFinite o_OrderError := ⟨e1_NotFinite, e2_NotFinite, e3_NotFinite, e4_NotFinite, e5_NotFinite, ⟨e6_NotFinite, e7_NotFinite, e3_NotFinite, e8_NotFinite, e9_NotFinite, e10_NotFinite, e11_NotFinite, e12_NotFinite⟩⟩
  have hkit_NotFinite : PySem.W.kitOne K (.ref o_NotFinite) (.ref o_NotFinite) = some true := if_pos (beq_self_eq_true _)
  have hE_BadLetters : ClsF K o_BadLetters o_OrderError := ⟨e1_BadLetters, e2_BadLetters, e3_BadLetters, e4_BadLetters, e5_BadLetters, ⟨e6_BadLetters, e7_BadLetters, e3_BadLetters, e8_BadLetters, e9_BadLetters, e10_BadLetters, e11_BadLetters, e12_BadLetters⟩⟩
  have hkit_BadLetters : PySem.W.kitOne K (.ref o_BadLetters) (.ref o_BadLetters) = some true := if_pos (beq_self_eq_true _)
  refine ⟨A0.d_law, [(c_is_ascending, p_is_ascending), (c_is_name, p_is_name), (c_is_scope, p_is_scope), (c_is_letter, p_is_letter), (c_node_count, p_node_count), (c_place_count, p_place_count), (c_written, p_written), (c_law, p_law)], spOf K (T A0) (spLaw p_law), ?_, ?_, ?_, fun s v => .of_eq rfl, fun H a ns hl hb hT hS => start_own (q := qLaw) (fun P hP => ?_) (hT (c_law, p_law) (by simp)) np hS ⟨ns, rfl, hl, hb, rfl, fun _ => rfl⟩, fun base hK hN hB => ok_law (a := A0) (hX base ?_ ?_ ?_ ?_ ?_ ?_ ?_) hk hSh hE_BadScope hkit_BadScope hE_BadWeave hkit_BadWeave hE_NotFinite hkit_NotFinite hE_BadLetters hkit_BadLetters (hB (c_law, p_law) (by simp))⟩
  · intro p hp; simp only [List.mem_cons, List.not_mem_nil, or_false] at hp; rcases hp with rfl | rfl | rfl | rfl | rfl | rfl | rfl | rfl; exact T_is_ascending.1; exact T_is_name.1; exact T_is_scope.1; exact T_is_letter.1; exact T_node_count.1; exact T_place_count.1; exact T_written.1; exact T_law.1
  · intro p hp; simp only [List.mem_cons, List.not_mem_nil, or_false] at hp; rcases hp with rfl | rfl | rfl | rfl | rfl | rfl | rfl | rfl; exact n_is_ascending; exact n_is_name; exact n_is_scope; exact n_is_letter; exact n_node_count; exact n_place_count; exact n_written; exact n_law
  · intro p hp; simp only [List.mem_cons, List.not_mem_nil, or_false] at hp; rcases hp with rfl | rfl | rfl | rfl | rfl | rfl | rfl | rfl; exact T_is_ascending.2; exact T_is_name.2; exact T_is_scope.2; exact T_is_letter.2; exact T_node_count.2; exact T_place_count.2; exact T_written.2; exact T_law.2
  · have hP : P ∈ [p_is_ascending, p_is_name, p_is_scope, p_is_letter, p_node_count, p_place_count, p_written] := hP
    simp only [List.mem_cons, List.not_mem_nil, or_false] at hP; rcases hP with hP | hP | hP | hP | hP | hP | hP; (rw [hP]; exact hT (c_is_ascending, p_is_ascending) (by simp)); (rw [hP]; exact hT (c_is_name, p_is_name) (by simp)); (rw [hP]; exact hT (c_is_scope, p_is_scope) (by simp)); (rw [hP]; exact hT (c_is_letter, p_is_letter) (by simp)); (rw [hP]; exact hT (c_node_count, p_node_count) (by simp)); (rw [hP]; exact hT (c_place_count, p_place_count) (by simp)); (rw [hP]; exact hT (c_written, p_written) (by simp))
  · have B := hB (c_is_ascending, p_is_ascending) (by simp); exact ⟨B.code, B.bm, B.gP⟩
  · have B := hB (c_is_name, p_is_name) (by simp); exact ⟨B.code, B.bm, B.gP⟩
  · have B := hB (c_is_scope, p_is_scope) (by simp); exact ⟨B.code, B.bm, B.gP⟩
  · have B := hB (c_is_letter, p_is_letter) (by simp); exact ⟨B.code, B.bm, B.gP⟩
  · have B := hB (c_node_count, p_node_count) (by simp); exact ⟨B.code, B.bm, B.gP⟩
  · have B := hB (c_place_count, p_place_count) (by simp); exact ⟨B.code, B.bm, B.gP⟩
  · have B := hB (c_written, p_written) (by simp); exact ⟨B.code, B.bm, B.gP⟩
end K0
open PySem PySem.W PyProof.Rows
set_option maxHeartbeats 0 in
theorem PySem.Challenge.cw_alongall_k01_what_weaves_tell_holds : PySem.Challenge.rw_alongall_k01_what_weaves_tell.Holds := by
  w_on; o_law; k_head; (case hw => w_witness2)
  k_fill
  refine Al.walk_ofDefsG (l := PySem.Challenge.rw_alongall_k01_what_weaves_tell) (n := 63) (x := "script") rfl (by decide) rfl (fun w h Y => PySem.W.km_in_of Y) ?F
  case F =>
    intro w mg fa h Y KX G hmg own
    refine' K0.all_mk KX G hmg own (by kernel_rfl) ?a_is_ascending ?l_is_ascending ?h_is_ascending ?k_is_ascending ?r_is_ascending ?a_head_of ?l_head_of ?h_head_of ?k_head_of ?a_is_name ?l_is_name ?h_is_name ?k_is_name ?r_is_name ?a_is_scope ?l_is_scope ?h_is_scope ?k_is_scope ?r_is_scope ?a_need_scope ?l_need_scope ?h_need_scope ?k_need_scope ?a_letter_row ?l_letter_row ?h_letter_row ?k_letter_row ?a_is_letter ?l_is_letter ?h_is_letter ?k_is_letter ?r_is_letter ?a_parts_of ?l_parts_of ?h_parts_of ?k_parts_of ?a_is_knot ?l_is_knot ?h_is_knot ?k_is_knot ?a_nodes_at_most ?l_nodes_at_most ?h_nodes_at_most ?k_nodes_at_most ?a_is_weave ?l_is_weave ?h_is_weave ?k_is_weave ?a_need_weave ?l_need_weave ?h_need_weave ?k_need_weave ?a_node_count ?l_node_count ?h_node_count ?k_node_count ?r_node_count ?a_size ?l_size ?h_size ?k_size ?a_letters_below ?l_letters_below ?h_letters_below ?k_letters_below ?a_letters_in ?l_letters_in ?h_letters_in ?k_letters_in ?a_place_count ?l_place_count ?h_place_count ?k_place_count ?r_place_count ?a_length ?l_length ?h_length ?k_length ?a_spelled ?l_spelled ?h_spelled ?k_spelled ?a_in_row ?l_in_row ?h_in_row ?k_in_row ?a_written ?l_written ?h_written ?k_written ?r_written ?a_law_begun ?l_law_begun ?h_law_begun ?k_law_begun ?a_law_mixed ?l_law_mixed ?h_law_mixed ?k_law_mixed ?a_law_take ?l_law_take ?h_law_take ?k_law_take ?a_law_pick ?l_law_pick ?h_law_pick ?k_law_pick ?a_law_shuffled ?l_law_shuffled ?h_law_shuffled ?k_law_shuffled ?a_law_caught ?l_law_caught ?h_law_caught ?k_law_caught ?a_law_names ?l_law_names ?h_law_names ?k_law_names ?a_law_scope ?l_law_scope ?h_law_scope ?k_law_scope ?a_law_letters ?l_law_letters ?h_law_letters ?k_law_letters ?a_law_once ?l_law_once ?h_law_once ?k_law_once ?a_law_weave ?l_law_weave ?h_law_weave ?k_law_weave ?a_law_inner ?l_law_inner ?h_law_inner ?k_law_inner ?a_law_nodes ?l_law_nodes ?h_law_nodes ?k_law_nodes ?a_law_at ?l_law_at ?h_law_at ?k_law_at ?a_law_told ?l_law_told ?h_law_told ?k_law_told ?a_law_bad_weave ?l_law_bad_weave ?h_law_bad_weave ?k_law_bad_weave ?a_law ?l_law ?h_law ?k_law ?z_abs ?z_all ?z_enumerate ?z_int ?z_isinstance ?z_len ?z_list ?z_min ?z_range ?z_repr ?z_reversed ?z_sorted ?z_str ?z_sum ?z_tuple ?x_KEPT ?y_KEPT ?x_LETTERS_OF_NAMES ?x_MOST_NODES ?x_MOST_DEEP ?x_SHAPES ?y_SHAPES ?x_OrderError ?x_BadLetters ?x_BadScope ?x_BadWeave ?x_NotFinite ?r_law ?dis ?zz_KEPT ?st_KEPT ?kl_SHAPES ?en_SHAPES ?lo_SHAPES ?e1_BadScope ?e2_BadScope ?e3_BadScope ?e4_BadScope ?e5_BadScope ?e6_BadScope ?e7_BadScope ?e8_BadScope ?e9_BadScope ?e10_BadScope ?e11_BadScope ?e12_BadScope ?e1_BadWeave ?e2_BadWeave ?e3_BadWeave ?e4_BadWeave ?e5_BadWeave ?e6_BadWeave ?e7_BadWeave ?e8_BadWeave ?e9_BadWeave ?e10_BadWeave ?e11_BadWeave ?e12_BadWeave ?e1_NotFinite ?e2_NotFinite ?e3_NotFinite ?e4_NotFinite ?e5_NotFinite ?e6_NotFinite ?e7_NotFinite ?e8_NotFinite ?e9_NotFinite ?e10_NotFinite ?e11_NotFinite ?e12_NotFinite ?e1_BadLetters ?e2_BadLetters ?e3_BadLetters ?e4_BadLetters ?e5_BadLetters ?e6_BadLetters ?e7_BadLetters ?e8_BadLetters ?e9_BadLetters ?e10_BadLetters ?e11_BadLetters ?e12_BadLetters
    (case a_is_ascending => k_is)
    (case l_is_ascending => k_is)
    (case h_is_ascending => k_is)
    (case k_is_ascending => k_is)
    (case r_is_ascending => first | rfl | decide +kernel)
    (case a_head_of => k_is)
    (case l_head_of => k_is)
    (case h_head_of => k_is)
    (case k_head_of => k_is)
    (case a_is_name => k_is)
    (case l_is_name => k_is)
    (case h_is_name => k_is)
    (case k_is_name => k_is)
    (case r_is_name => first | rfl | decide +kernel)
    (case a_is_scope => k_is)
    (case l_is_scope => k_is)
    (case h_is_scope => k_is)
    (case k_is_scope => k_is)
    (case r_is_scope => first | rfl | decide +kernel)
    (case a_need_scope => k_is)
    (case l_need_scope => k_is)
    (case h_need_scope => k_is)
    (case k_need_scope => k_is)
    (case a_letter_row => k_is)
    (case l_letter_row => k_is)
    (case h_letter_row => k_is)
    (case k_letter_row => k_is)
    (case a_is_letter => k_is)
    (case l_is_letter => k_is)
    (case h_is_letter => k_is)
    (case k_is_letter => k_is)
    (case r_is_letter => first | rfl | decide +kernel)
    (case a_parts_of => k_is)
    (case l_parts_of => k_is)
    (case h_parts_of => k_is)
    (case k_parts_of => k_is)
    (case a_is_knot => k_is)
    (case l_is_knot => k_is)
    (case h_is_knot => k_is)
    (case k_is_knot => k_is)
    (case a_nodes_at_most => k_is)
    (case l_nodes_at_most => k_is)
    (case h_nodes_at_most => k_is)
    (case k_nodes_at_most => k_is)
    (case a_is_weave => k_is)
    (case l_is_weave => k_is)
    (case h_is_weave => k_is)
    (case k_is_weave => k_is)
    (case a_need_weave => k_is)
    (case l_need_weave => k_is)
    (case h_need_weave => k_is)
    (case k_need_weave => k_is)
    (case a_node_count => k_is)
    (case l_node_count => k_is)
    (case h_node_count => k_is)
    (case k_node_count => k_is)
    (case r_node_count => first | rfl | decide +kernel)
    (case a_size => k_is)
    (case l_size => k_is)
    (case h_size => k_is)
    (case k_size => k_is)
    (case a_letters_below => k_is)
    (case l_letters_below => k_is)
    (case h_letters_below => k_is)
    (case k_letters_below => k_is)
    (case a_letters_in => k_is)
    (case l_letters_in => k_is)
    (case h_letters_in => k_is)
    (case k_letters_in => k_is)
    (case a_place_count => k_is)
    (case l_place_count => k_is)
    (case h_place_count => k_is)
    (case k_place_count => k_is)
    (case r_place_count => first | rfl | decide +kernel)
    (case a_length => k_is)
    (case l_length => k_is)
    (case h_length => k_is)
    (case k_length => k_is)
    (case a_spelled => k_is)
    (case l_spelled => k_is)
    (case h_spelled => k_is)
    (case k_spelled => k_is)
    (case a_in_row => k_is)
    (case l_in_row => k_is)
    (case h_in_row => k_is)
    (case k_in_row => k_is)
    (case a_written => k_is)
    (case l_written => k_is)
    (case h_written => k_is)
    (case k_written => k_is)
    (case r_written => first | rfl | decide +kernel)
    (case a_law_begun => k_is)
    (case l_law_begun => k_is)
    (case h_law_begun => k_is)
    (case k_law_begun => k_is)
    (case a_law_mixed => k_is)
    (case l_law_mixed => k_is)
    (case h_law_mixed => k_is)
    (case k_law_mixed => k_is)
    (case a_law_take => k_is)
    (case l_law_take => k_is)
    (case h_law_take => k_is)
    (case k_law_take => k_is)
    (case a_law_pick => k_is)
    (case l_law_pick => k_is)
    (case h_law_pick => k_is)
    (case k_law_pick => k_is)
    (case a_law_shuffled => k_is)
    (case l_law_shuffled => k_is)
    (case h_law_shuffled => k_is)
    (case k_law_shuffled => k_is)
    (case a_law_caught => k_is)
    (case l_law_caught => k_is)
    (case h_law_caught => k_is)
    (case k_law_caught => k_is)
    (case a_law_names => k_is)
    (case l_law_names => k_is)
    (case h_law_names => k_is)
    (case k_law_names => k_is)
    (case a_law_scope => k_is)
    (case l_law_scope => k_is)
    (case h_law_scope => k_is)
    (case k_law_scope => k_is)
    (case a_law_letters => k_is)
    (case l_law_letters => k_is)
    (case h_law_letters => k_is)
    (case k_law_letters => k_is)
    (case a_law_once => k_is)
    (case l_law_once => k_is)
    (case h_law_once => k_is)
    (case k_law_once => k_is)
    (case a_law_weave => k_is)
    (case l_law_weave => k_is)
    (case h_law_weave => k_is)
    (case k_law_weave => k_is)
    (case a_law_inner => k_is)
    (case l_law_inner => k_is)
    (case h_law_inner => k_is)
    (case k_law_inner => k_is)
    (case a_law_nodes => k_is)
    (case l_law_nodes => k_is)
    (case h_law_nodes => k_is)
    (case k_law_nodes => k_is)
    (case a_law_at => k_is)
    (case l_law_at => k_is)
    (case h_law_at => k_is)
    (case k_law_at => k_is)
    (case a_law_told => k_is)
    (case l_law_told => k_is)
    (case h_law_told => k_is)
    (case k_law_told => k_is)
    (case a_law_bad_weave => k_is)
    (case l_law_bad_weave => k_is)
    (case h_law_bad_weave => k_is)
    (case k_law_bad_weave => k_is)
    (case a_law => k_is)
    (case l_law => k_is)
    (case h_law => k_is)
    (case k_law => k_is)
    (case z_abs => k_is)
    (case z_all => k_is)
    (case z_enumerate => k_is)
    (case z_int => k_is)
    (case z_isinstance => k_is)
    (case z_len => k_is)
    (case z_list => k_is)
    (case z_min => k_is)
    (case z_range => k_is)
    (case z_repr => k_is)
    (case z_reversed => k_is)
    (case z_sorted => k_is)
    (case z_str => k_is)
    (case z_sum => k_is)
    (case z_tuple => k_is)
    (case x_KEPT => k_is)
    (case y_KEPT => k_is)
    (case x_LETTERS_OF_NAMES => k_is)
    (case x_MOST_NODES => k_is)
    (case x_MOST_DEEP => k_is)
    (case x_SHAPES => k_is)
    (case y_SHAPES => k_is)
    (case x_OrderError => k_is)
    (case x_BadLetters => k_is)
    (case x_BadScope => k_is)
    (case x_BadWeave => k_is)
    (case x_NotFinite => k_is)
    (case r_law => first | rfl | decide +kernel)
    (case e1_BadScope => k_exc)
    (case e2_BadScope => k_is)
    (case e3_BadScope => k_is)
    (case e4_BadScope => k_is)
    (case e6_BadScope => k_is)
    (case e7_BadScope => k_is)
    (case e8_BadScope => k_is)
    (case e9_BadScope => k_is)
    (case e10_BadScope => k_is)
    (case e11_BadScope => k_is)
    (case e12_BadScope => k_is)
    (case e1_BadWeave => k_exc)
    (case e2_BadWeave => k_is)
    (case e3_BadWeave => k_is)
    (case e4_BadWeave => k_is)
    (case e6_BadWeave => k_is)
    (case e7_BadWeave => k_is)
    (case e8_BadWeave => k_is)
    (case e9_BadWeave => k_is)
    (case e10_BadWeave => k_is)
    (case e11_BadWeave => k_is)
    (case e12_BadWeave => k_is)
    (case e1_NotFinite => k_exc)
    (case e2_NotFinite => k_is)
    (case e3_NotFinite => k_is)
    (case e4_NotFinite => k_is)
    (case e6_NotFinite => k_is)
    (case e7_NotFinite => k_is)
    (case e8_NotFinite => k_is)
    (case e9_NotFinite => k_is)
    (case e10_NotFinite => k_is)
    (case e11_NotFinite => k_is)
    (case e12_NotFinite => k_is)
    (case e1_BadLetters => k_exc)
    (case e2_BadLetters => k_is)
    (case e3_BadLetters => k_is)
    (case e4_BadLetters => k_is)
    (case e6_BadLetters => k_is)
    (case e7_BadLetters => k_is)
    (case e8_BadLetters => k_is)
    (case e9_BadLetters => k_is)
    (case e10_BadLetters => k_is)
    (case e11_BadLetters => k_is)
    (case e12_BadLetters => k_is)
    (case dis => kernel_rfl)
    (case zz_KEPT => first | decide | exact Nat.le_of_ble_eq_true rfl)
    (case st_KEPT => (repeat (refine ⟨_, _, _, rfl, rfl, ?_⟩)); rfl)
    (case kl_SHAPES => repeat (first | exact True.intro | refine ⟨⟨_, _, rfl, rfl⟩, ?_⟩))
    (case en_SHAPES => (repeat (refine ⟨_, _, _, _, _, rfl, rfl, rfl, ?_⟩)); rfl)
    (case lo_SHAPES => first | rfl | decide)
    (case e5_BadScope => first | k_is | kernel_rfl)
    (case e5_BadWeave => first | k_is | kernel_rfl)
    (case e5_NotFinite => first | k_is | kernel_rfl)
    (case e5_BadLetters => first | k_is | kernel_rfl)
end
