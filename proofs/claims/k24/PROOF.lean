import PyProof.Rows.All
import Wide.All
import OpenK.AllK
import Wide.FinOn
import HandS.ForMost
import HandS.IsInst
import HandS.StrMore
import HandS.Steps
import HandS.Walk
import HandS.ExcInit
import HandS.ExcOwn
import HandS.ExcField
import KE.KExcInit
import KE.KExcIs
import HandS.ExcValue
import HandS.ListItems
import PyProof.EnumIter
import PyProof.EnumMake
import PyProof.EnumStmt
import KE.KItemsList
import PyProof.DictUpdate
import PyProof.DictKeyH
import KE.KParD
import HandS.Base
import HandS.Call
import HandS.Dict
import HandS.Star
import HandS.MakeKw
import HandS.OwnEq
import HandS.FStr
import KE.KFmtOwn
import HandS.Exc
import KE.KTryMore
import HandS.SetTxt0
import HandS.SetFor
import HandS.Strs
import HandS.DictComp
import KE.KOpsOwn
import HandS.Property
import HandS.ClsMeth
import HandS.Comp
import PyProof.Rows.StrMeet
import PyProof.TupleOfGen
import KE.KDictSum
import HandS.Small
import HandS.TupLe
import HandS.Wide
import HandS.WordsDict
import HandS.RaiseMore
import HandS.Style
import HandS.Text
import HandS.More
import HandS.WordsExc
import HandS.TryOnly
import HandS.ExcIs
import PySem.Challenge.RW_evenends_k24_texts_of_stories
set_option Elab.async false
set_option linter.all false
set_option maxRecDepth 100000
set_option maxHeartbeats 4000000

/-! Defs that may show data: their promise is asked where no object is being shown (no guard is set). -/
namespace EvG
open PySem PySem.Spec PyProof.Rows L2

/-- a def's promise, asked only where nothing is being shown -/
structure FnG (P : Program) (w : World) (K : PySem.W.Frag) (mg : Str → Option Value) (base : Heap) (CX : CXT) (k : Nat) (f : Addr) (fd : FuncData) (ps : List Str) (sp : Sp) : Prop where
  len : ∀ vs H Q E, sp vs H Q E → vs.length = ps.length
  go : ∀ (A : Around) (outer : List Env) (s : Shared) (H : Hp) (args : Args) (us : List Value) (vs : List V) (Q : VK) (E : XK), A.guards = some [] → Room k A → Env0 P w K mg base A outer s H →
    BindsTo s fd args (ps.zip us) → Vals vs us → sp vs H Q E → codeAny (model P w) A (.call (.ref f) args) (CR CX outer P w H s Q E) s

section
variable {P : Program} {w : World} {K : PySem.W.Frag} {mg : Str → Option Value} {base : Heap} {CX : CXT} {k : Nat} {f : Addr} {fd : FuncData} {ps : List Str} {sp : Sp}
theorem FnG.of (F : FnOk P w K mg base CX k f fd ps sp) : FnG P w K mg base CX k f fd ps sp :=
  ⟨F.len, fun A outer s H args us vs Q E _ hr e0 hb r h => F.run A outer s H args us vs Q E hr e0 hb r h⟩
theorem FnG.mono {j : Nat} (F : FnG P w K mg base CX j f fd ps sp) (h : j ≤ k) : FnG P w K mg base CX k f fd ps sp :=
  ⟨F.len, fun A outer s H args us vs Q E g hr e0 hb r q => F.go A outer s H args us vs Q E g (hr.mono h) e0 hb r q⟩
end

theorem endG {P : Program} {w : World} {outer : List Env} {s : Shared} {H : Hp} {Q : VK} {X : Cx} {σ : L2.St} {H' : Hp} {s' : Shared} {v : V} {u : Value} (J : Inv X [] σ H' s') (rv : RelV v u) (q : Q v H')
    (eP : X.prog = P) (ew : X.w = w) (eo : X.outer = outer) (es : X.s_0 = s) (ex : X.ex = []) (eH : X.H_0 = H) : CE outer P w H s Q u s' := by
  subst eP; subst ew; subst eo; subst es; subst eH
  have b := J.base
  rw [ex] at b
  exact ⟨v, H', J.os, J.bare, b, J.hok, rv, q⟩

/-- a def of the text keeps its promise by its body, nothing being shown -/
theorem fnG {P : Program} {w : World} {K : PySem.W.Frag} {mg : Str → Option Value} {base : Heap} {x qual : Str} {st : Stmt} {f : Addr} {fd : FuncData} {N ps : List Str} {k : Nat} {sp : Sp}
    (F : Fun K x qual st f fd) (S : FnScope N ps (defScope st)) (len : ∀ vs H Q E, sp vs H Q E → vs.length = ps.length)
    (body : ∀ (cdv : Value) (A : Around) (outer : List Env) (s : Shared) (H : Hp) (vs : List V) (Q : VK) (E : XK), A.guards = some [] → Room k (A.deeper (envOfC qual (defScope st) s.heap.objs.size f cdv)) → sp vs H Q E →
      ∃ t, PSs (cxOf CX0 P w K mg base N qual (defScope st) f cdv A outer s H E).nox (defBody st) t ∧ t { nx := fun _ H' => Q .non H', rt := Q } (start N vs) H) : FnG P w K mg base CX0 (k + 1) f fd ps sp := by
  obtain ⟨oc, od, kV, doc, pm, an, cdv, ct, osl, rfl, lk, hcd⟩ := F.ex
  refine ⟨len, ?_⟩
  intro A outer s H args us vs Q E hg room env0 hbind rv asked
  have many : vs.length = ps.length := len vs H Q E asked
  have inK : K.In s.heap := env0.mod.kin.keeps fun c o h => (env0.bs c o h).1
  have noL : s.heap.NoLimit := env0.mod.nolimit.keeps fun c o h => (env0.bs c o h).1
  have kinds : ∀ y ∈ ps.zip us, (defScope st).names.lookup y.1 = some .local ∨ ((defScope st).names.lookup y.1 = some .cell ∧ ((cellsFrom (s.heap.objs.size + 1) (defScope st).names []).lookup y.1).isSome = true) := by
    rintro ⟨n, v⟩ hy
    cases S.par n (List.of_mem_zip hy).1 with
    | inl q => exact Or.inl q
    | inr q => exact Or.inr ⟨q, PySem.W.cellsFrom_some _ _ _ (Or.inl q)⟩
  refine codeAny_call_function room.depth (inK _ _ lk) rfl S.co S.gen rfl (PySem.W.codeRec_of inK hcd) (hbind _ _ _ _ ?_)
  refine wpAny_newFunctionEnv_cells S.kind kinds fun env he s1 inC => ?_
  cases he
  refine ⟨noL.keeps inC.toInCall.keep, codeAny_func ?_⟩
  obtain ⟨t, tree, read⟩ := body cdv A outer s H vs Q E hg (room.deeper _) asked
  have I0 : Inv (cxOf CX0 P w K mg base N qual (defScope st) f cdv A outer s H E) [] (start N vs) H s1 := inv_start S room.hd env0 many rv inC
  refine wpAny_mono (tree.nox.run [] s1 (start N vs) H _ I0 read) (fun fl s' hs => ?_) (fun e s' hs => hs)
  cases fl with
  | next =>
    obtain ⟨τ, G, J, q⟩ := hs
    exact endG (v := V.non) (u := Value.none) J rfl q rfl rfl rfl rfl rfl rfl
  | ret u =>
    obtain ⟨v, τ, G, J, r, q⟩ := hs
    exact endG J r q rfl rfl rfl rfl rfl rfl
  | brk =>
    obtain ⟨_, _, _, q⟩ := hs
    exact q.elim
  | cont =>
    obtain ⟨_, _, _, q⟩ := hs
    exact q.elim

section
variable {X : Cx} {CX : CXT} {k : Nat} {f : Addr} {fd : FuncData} {ps : List Str} {sp : Sp} {dvs : List V} {ds : List Value} {E : XK} {x : Str} {p pos : Pos} {e : Expr} {es : List Expr} {t : TA}
theorem runG {pins : List (Addr × Obj)} {σ : L2.St} {H : Hp} {s : Shared} {Q : VK} {us : List Value} {vs : List V} (F : FnG X.prog X.w X.K X.mg X.base CX k f fd ps sp) (hg : X.A.guards = some []) (hr : Room k X.A) (hb : Binds X.K fd ps ds) (hd : Vals dvs ds) (hx : Passes CX X E)
    (I : Inv X pins σ H s) (r : Vals vs us) (h : sp (vs ++ dvs) H Q E) : wpAny (model X.prog X.w) X.A (call (.ref f) us) (EP X pins σ Q) X.xe s := by
  have rr : Vals (vs ++ dvs) (us ++ ds) := r.append hd
  have hl : (us ++ ds).length = ps.length := rr.length.symm.trans (F.len _ _ _ _ h)
  refine wpAny_call (codeAny_mono (F.go X.A X.stack s H ⟨us, []⟩ (us ++ ds) (vs ++ dvs) Q E hg hr I.env0 (hb s us I.kIn hl) rr h) (fun res s' hq => ?_))
  cases res with
  | error e => exact hx pins σ H s e s' I hq
  | ok fl =>
    cases fl with
    | ret u => exact I.after hq
    | next => exact hq.elim
    | brk => exact hq.elim
    | cont => exact hq.elim
/-- f(e, ..), f such a def -/
theorem pe_callG (F : FnG X.prog X.w X.K X.mg X.base CX k f fd ps sp) (g : X.A.guards = some []) (hr : Room k X.A) (hg : Gl X x) (hm : X.mg x = some (.ref f)) (hk : PySem.W.keepIn X.K (.ref f) = true) (hb : Binds X.K fd ps ds) (hd : Vals dvs ds) (hx : Passes CX X E)
    (ha : PA X (e :: es) t) (hdb : (x == ("__debug__" : Str)) = false := by decide) (he : starEach (e :: es) X.env = (false, eval e X.env) :: starEach es X.env := by rfl) (hpl : (backTo pos (starEach es X.env)).any (·.1) = false := by rfl) :
    PE X (.Call (.Name x p) (e :: es) [] pos) (tCall sp dvs E t) := by
  constructor
  intro pins s σ H Q I h
  apply wpAny_Call_Name_kw
  refine ld_glob I hg hm ?_ hdb
  refine PySem.W.callWith_K (h₀ := X.base) I.ok.mod.kin hk ?_ he hpl
  refine thn (ha.run pos pins s σ H _ I h) ?_
  rintro us s1 ⟨vs, H1, I1, r, q⟩
  exact ⟨I1.kIn, runG F g hr hb hd hx I1 r q⟩
end

/-! ### repr of data -/
section
variable {X : Cx}
/-- what may be shown: d is what v holds, without dicts -/
def rRepr (K : PySem.W.Frag) : List V → Hp → VK → Prop := fun xs H Q => ∃ (a : Addr) (d : PyData), xs = [.ref a] ∧ Dp K H (.ref a) d ∧ d.showable = true ∧ d.hasDict = false ∧ d.depth ≤ 40 ∧ d.shown.length ≤ sizeLine ∧ Q (.str d.shown) H
theorem call_repr (g : X.A.guards = some []) (hu : X.A.units + 64 < cLine) : CallR X (.builtin "repr") (rRepr X.K) := by
  intro pins s σ H xs us Q I r h
  obtain ⟨a, d, rfl, hd, sh, nd, dep, sz, q⟩ := h
  obtain ⟨u, rfl, ru⟩ : ∃ u, us = [u] ∧ RelV (.ref a) u := by
    cases r with
    | cons r1 r2 =>
      cases r2
      exact ⟨_, rfl, r1⟩
  obtain ⟨as, rd⟩ := Dp.reads I d _ u hd ru
  obtain rfl : u = Value.ref a := ru
  refine repr_of_reads' rd sh (fun z => by rw [nd] at z; cases z) g (by omega) (fun _ _ e => e) (fun h' u tk k => ?_) sz
  exact ⟨.str d.shown, H, I.kept k, ⟨_, rfl⟩, q⟩
end
end EvG

/-! ### the law's call where nothing is shown -/
namespace EvG
open PySem PySem.Spec PyProof.Rows L2
/-- the module's facts stay where only the script is put aside -/
theorem hidden_mod {s₁ : Shared} {K : PySem.W.Frag} {mg mb : Str → Option Value} {H : Hp} (KX : K.In s₁.heap) (hns : s₁.heap.Ns mainGlobals mg) (hb : s₁.heap.Ns builtinsNs mb) (hbb : ∀ x : Str, x ≠ "__name__" → mb x = bootBuiltins x) (hlim : s₁.heap.NoLimit)
    (free : ∀ b o, s₁.heap.get? b = some o → (∃ es ep, o.data = Data.dict es ep) → H b = none) (freeK : ∀ b o, K.lookup b = some o → H b = none) : Mod K mg (hidT s₁.heap H) := by
  have ns : ∀ (b : Addr) (m : Str → Option Value), s₁.heap.Ns b m → (hidT s₁.heap H).Ns b m := by
    rintro b m ⟨o, es, ep, e, d, r⟩
    exact ⟨o, es, ep, hidT_get e (free b o e ⟨es, ep, d⟩), d, r⟩
  refine ⟨?_, ns _ _ hns, ⟨mb, ns _ _ hb, hbb⟩, ?_⟩
  · intro b o e
    exact hidT_get (KX b o e) (freeK b o e)
  · obtain ⟨mc, h1, h2⟩ := hlim
    exact ⟨mc, ns _ _ h1, h2⟩

theorem callG {P : Program} {w : World} {K : PySem.W.Frag} {mg mb : Str → Option Value} {k : Nat} {fa a : Addr} {fd : FuncData} {x : Str} {sp : Sp} {s₁ : Shared} {vs : List Value} {ns : List Int}
    (KX : K.In s₁.heap) (hns : s₁.heap.Ns mainGlobals mg) (hb : s₁.heap.Ns builtinsNs mb) (hbb : ∀ x : Str, x ≠ "__name__" → mb x = bootBuiltins x) (hlim : s₁.heap.NoLimit) (hg : s₁.gens = #[])
    (ha : s₁.heap.get? a = some { cls := .type "list", data := .seq vs.toArray }) (hi : IntsAre vs ns) (hl : ns.length ≤ sizeLine) (hr : Room k callerA)
    (F : ∀ base : Heap, K.In base → base.Ns mainGlobals mg → FnG P w K mg base CX0 k fa fd [x] sp) (hbind : ∀ (s : Shared) (u : Value), BindsTo s fd ⟨[u], []⟩ [(x, u)])
    (hsp : ∀ H : Hp, Only H → SqL K H a (ns.map V.int) → sp [.ref a] H (fun v _ => v = .bl true) fun _ _ _ => False) :
    codeAny (model P w) callerA (.call (.ref fa) ⟨[.ref a], []⟩) (fun r s' => r = .ok (.ret (.bool true)) ∧ OldK s₁.heap s'.heap ∧ s'.os = s₁.os ∧ AllBare s'.gens) s₁ := by
  have rv := vals_ints hi
  have sizes := hi.length
  have main : ∀ H : Hp, Only H → SqL K H a (ns.map V.int) → HOk P w H s₁.heap → (∀ b o, s₁.heap.get? b = some o → (∃ es ep, o.data = Data.dict es ep) → H b = none) → (∀ b o, K.lookup b = some o → H b = none) →
      codeAny (model P w) callerA (.call (.ref fa) ⟨[.ref a], []⟩) (fun r s' => r = .ok (.ret (.bool true)) ∧ OldK s₁.heap s'.heap ∧ s'.os = s₁.os ∧ AllBare s'.gens) s₁ := by
    intro H only seq ok fr fk
    have M := hidden_mod (H := H) KX hns hb hbb hlim fr fk
    have e0 : Env0 P w K mg (hidT s₁.heap H) callerA [] s₁ H := by
      refine ⟨rfl, M, fun b o e => of_hidT e, Nat.le_of_eq (hidT_size _ _), trivial, fun b z => ?_, ok, .of_eq hg⟩
      have z' : b ∈ ([] : List Addr) := z
      cases z'
    refine codeAny_mono ((F _ M.kin M.glob).go callerA [] s₁ H ⟨[.ref a], []⟩ [.ref a] [.ref a] _ _ rfl hr e0 (hbind s₁ (.ref a)) (.cons rfl .nil) (hsp H only seq)) ?_
    intro res s' q
    cases res with
    | error e => exact q.elim
    | ok fl =>
      cases fl with
      | next => exact q.elim
      | brk => exact q.elim
      | cont => exact q.elim
      | ret u =>
        obtain ⟨v, H', os, bare, un, ok', r', hv⟩ := q
        obtain rfl : v = .bl true := hv
        obtain rfl : u = Value.bool true := r'
        refine ⟨rfl, OldK.of_keep ?_, os, bare⟩
        intro b o e
        have nin : b ∉ frs ([] : List Env) := fun z => by
          have z' : b ∈ ([] : List Addr) := z
          cases z'
        rcases only b with z | ⟨ob, xs, z⟩
        · exact un.keep b o e z nin (by simp)
        · have e1 := (ok b _ z).1
          have e2 := (ok' b _ (un.frzs b ob _ z)).1
          rw [e] at e1
          cases e1
          exact e2
  by_cases hk : ∃ o, K.lookup a = some o
  · obtain ⟨o, ho⟩ := hk
    have e := KX a o ho
    rw [ha] at e
    cases e
    refine main (fun _ => none) (fun _ => .inl rfl) (.inr ⟨_, vs.toArray, _, ho, rfl, rfl, rfl, ?_, ?_⟩) (fun b u z => ?_) (fun _ _ _ _ => rfl) (fun _ _ _ => rfl)
    · rw [List.size_toArray, sizes]
      exact hl
    · simpa using rv
    · have z' : (none : Option HO) = some u := z
      cases z'
  · have hn : K.lookup a = none := by
      cases q : K.lookup a with
      | none => rfl
      | some o => exact absurd ⟨o, q⟩ hk
    let G : Hp := fun b => if b = a then some (.frz { cls := .type "list", data := .seq vs.toArray } (.lst (ns.map V.int))) else none
    have Ga : G a = some (.frz { cls := .type "list", data := .seq vs.toArray } (.lst (ns.map V.int))) := if_pos rfl
    have Gn : ∀ b, b ≠ a → G b = none := fun b h => if_neg h
    refine main G (fun b => ?_) (.inl (.inr ⟨_, Ga⟩)) (fun b u z => ?_) (fun b o e d => ?_) (fun b o e => ?_)
    · by_cases h : b = a
      · subst h
        exact .inr ⟨_, _, Ga⟩
      · exact .inl (Gn b h)
    · by_cases h : b = a
      · subst h
        rw [Ga] at z
        cases z
        refine ⟨ha, ?_, vs, _, rv, ha⟩
        rw [List.length_map]
        exact hl
      · rw [Gn b h] at z
        cases z
    · refine Gn b fun h => ?_
      subst h
      rw [ha] at e
      cases e
      obtain ⟨es, ep, d⟩ := d
      cases d
    · refine Gn b fun h => ?_
      subst h
      rw [hn] at e
      cases e

/-- the end of a law whose def may show data -/
theorem walkG {l : PySem.W.OpenLaw} {n k : Nat} {q : Program} {loose : List Str} {XP : (Str → Option Value) → Heap → Prop} {YP : World → Heap → Prop} {d : DefRec} {K : Params → PySem.W.Frag} {sp : PySem.W.Frag → Sp} {x : Str}
    (hn : l.most = some n) (hn2 : n ≤ sizeLine) (hdf : d.params.defaults = []) (hr : Room k callerA) (hY : ∀ (w : World) (h : Heap), YP w h → (K w.params).In h)
    (F : ∀ (w : World) (mg : Str → Option Value) (fa : Addr) (h : Heap), (K w.params).In h → h.Ns mainGlobals mg → mg d.name = some (.ref fa) →
      ∃ fd : FuncData, (∀ (s : Shared) (u : Value), BindsTo s fd ⟨[u], []⟩ [(x, u)]) ∧ ∀ base : Heap, (K w.params).In base → base.Ns mainGlobals mg → FnG l.prog w (K w.params) mg base CX0 k fa fd [x] (sp (K w.params)))
    (hsp : ∀ (K : PySem.W.Frag) (H : Hp) (a : Addr) (ns : List Int), ns.length ≤ n → Only H → SqL K H a (ns.map V.int) → sp K [.ref a] H (fun v _ => v = .bl true) fun _ _ _ => False) :
    PySem.W.WalkO q loose XP YP l.row.toRowW d [] (fun f vs => PySem.call f vs) := by
  refine Att.attach_call hn hdf ?_
  intro w s₀ s₁ mg mb fa o pm cd doc a vs ns G Y ho hd hcd hmg hobj hints hlen hg
  have KX := hY w _ Y
  obtain ⟨fd, hb, hF⟩ := F w mg fa _ KX G.T.g hmg
  exact callG KX G.T.g G.T.b G.T.builtins G.T.nolimit hg hobj hints (Nat.le_trans hlen hn2) hr hF hb fun H only seq => hsp _ H a ns hlen only seq
end EvG

/-! Readings, one step a lemma; the steps are found by the head of the goal. -/
namespace EvG
open PySem PySem.Spec PyProof.Rows L2
section
variable {σ : L2.St} {H : Hp} {Q : VK} {QB : Bool → Hp → Prop} {QA : List V → Hp → Prop} {QO : Option Int → Hp → Prop} {QS : L2.St → Hp → Prop} {i : Nat} {v x y : V} {ta tb tc te : TE} {t u : TT} {tr tk : TA} {tl th : TO} {r : R2} {D : Ends} {t1 t2 ts : TS} {g : TG}
theorem g_var (h : σ[i]? = some (some v)) (q : Q v H) : tVar i σ H Q := ⟨v, h, q⟩
theorem g_c (q : Q v H) : tC v σ H Q := q
theorem g_op (h : ta σ H fun x H1 => tb σ H1 fun y H2 => r x y H2 Q) : tOp r ta tb σ H Q := h
theorem g_un {r : V → Hp → VK → Prop} (h : ta σ H fun x H1 => r x H1 Q) : tUn r ta σ H Q := h
theorem g_neg {i : Int} (h : Q (.int (-i)) H) : rU (fun i => .int (-i)) (.int i) H Q := ⟨i, rfl, h⟩
theorem g_I0 {f : Int → Int → V} {i j : Int} (q : Q (f i j) H) : rI0 f (.int i) (.int j) H Q := ⟨i, j, rfl, rfl, q⟩
theorem g_I {C : Int → Int → Prop} {f : Int → Int → V} {i j : Int} (c : C i j) (q : Q (f i j) H) : rI C f (.int i) (.int j) H Q := ⟨i, j, rfl, rfl, c, q⟩
theorem g_eq (h : scal x y = true) (q : Q (.bl (decide (x = y))) H) : rEq x y H Q := ⟨h, q⟩
theorem g_ne (h : scal x y = true) (q : Q (.bl (!decide (x = y))) H) : rNe x y H Q := ⟨h, q⟩
theorem g_test {te : TE} (h : te σ H fun x H' => ∃ k, x = .bl k ∧ QB k H') : tTest te σ H QB := h
theorem g_B {te : TE} (h : te σ H fun x H' => ∃ k, x = .bl k ∧ QB k H') : tB te σ H QB := h
theorem g_bl {k : Bool} {W : Bool → Prop} (q : W k) : ∃ k', V.bl k = .bl k' ∧ W k' := ⟨k, rfl, q⟩
theorem g_and (h : t σ H fun c H1 => if c = true then u σ H1 QB else QB false H1) : tAnd t u σ H QB := h
theorem g_or (h : t σ H fun c H1 => if c = true then QB true H1 else u σ H1 QB) : tOr t u σ H QB := h
theorem g_not (h : t σ H fun c H1 => QB (!c) H1) : tNot t σ H QB := h
theorem g_andV (h : ta σ H fun x H1 => ∃ c, x = .bl c ∧ if c = true then tb σ H1 Q else Q (.bl false) H1) : tAndV ta tb σ H Q := h
theorem g_orV (h : ta σ H fun x H1 => ∃ c, x = .bl c ∧ if c = true then Q (.bl true) H1 else tb σ H1 Q) : tOrV ta tb σ H Q := h
theorem g_notV (h : ta σ H fun x H1 => ∃ c, x = .bl c ∧ Q (.bl (!c)) H1) : tNotV ta σ H Q := h
theorem g_ifx (h : t σ H fun c H1 => if c = true then ta σ H1 Q else tb σ H1 Q) : tIf t ta tb σ H Q := h
theorem g_cons (h : te σ H fun x H1 => tr σ H1 fun xs H2 => QA (x :: xs) H2) : tCons te tr σ H QA := h
theorem g_nil (q : QA [] H) : tNil σ H QA := q
theorem g_cb {r : List V → Hp → VK → Prop} (h : tr σ H fun vs H1 => r vs H1 Q) : tCB r tr σ H Q := h
theorem g_call {sp : Sp} {dvs : List V} {E : XK} (h : tr σ H fun vs H1 => sp (vs ++ dvs) H1 Q E) : tCall sp dvs E tr σ H Q := h
theorem g_callK {sp : Sp} {gV : List V → List V → List V} {E : XK} (h : tr σ H fun vs H1 => tk σ H1 fun zs H2 => sp (gV vs zs) H2 Q E) : L2.tCallK sp gV E tr tk σ H Q := h
theorem g_tup (h : tr σ H fun xs H1 => xs.length ≤ sizeLine ∧ ∀ p, H1 p = none → Q (.ref p) (upd H1 p (.tup xs))) : tTup tr σ H Q := h
theorem g_lst (h : tr σ H fun xs H1 => xs.length ≤ sizeLine ∧ ∀ p, H1 p = none → Q (.ref p) (upd H1 p (.lst xs))) : tLst tr σ H Q := h
theorem g_sl {r : V → Option Int → Option Int → Hp → VK → Prop} (h : te σ H fun x H1 => tl σ H1 fun l H2 => th σ H2 fun u H3 => r x l u H3 Q) : tSl r te tl th σ H Q := h
theorem g_part (h : te σ H fun x H1 => ∃ i, x = .int i ∧ QO (some i) H1) : tPart te σ H QO := h
theorem g_nopart (q : QO none H) : tNoPart σ H QO := q
theorem g_seq (h : t1 { D with nx := t2 D } σ H) : tSeq t1 t2 D σ H := h
theorem g_next (q : D.nx σ H) : tNext D σ H := q
theorem g_asg (h : te σ H fun x H1 => g x σ H1 D.nx) : tAsg te g D σ H := h
theorem g_name (q : QS (σ.set i (some v)) H) : gName i v σ H QS := q
theorem g_sub {to ti : TE} {t : TSet} (h : to σ H fun o H1 => ti σ H1 fun i H2 => t o i v H2 fun H3 => QS σ H3) : gSub to ti t v σ H QS := h
theorem g_ret (h : te σ H D.rt) : tRet te D σ H := h
theorem g_retN (h : D.rt .non H) : tRetN D σ H := h
theorem g_drop (h : te σ H fun _ H1 => D.nx σ H1) : tDrop te D σ H := h
theorem g_ifs {c : TT} (h : c σ H fun b H1 => if b = true then t1 D σ H1 else t2 D σ H1) : tIfS c t1 t2 D σ H := h
theorem g_yes (q : QB true H) : tYes σ H QB := q
theorem g_m0 {r : V → List V → Hp → VK → Prop} {K : PySem.W.Frag} {T : String} (h : te σ H fun x H1 => tyV K T x H1 ∧ r x [] H1 Q) : tBM0 K T r te σ H Q := h
/-- items of lists and tuples that stand -/
theorem g_ixL {K : PySem.W.Frag} {p : Addr} {xs : List V} {i : Int} (h : SqL K H p xs) (ha : atI xs i = some v) (q : Q v H) : rIxL K (.ref p) (.int i) H Q := ⟨p, xs, i, v, rfl, rfl, h, ha, q⟩
theorem g_ixT {K : PySem.W.Frag} {p : Addr} {xs : List V} {i : Int} (h : SqT K H p xs) (ha : atI xs i = some v) (q : Q v H) : rIxT K (.ref p) (.int i) H Q := ⟨p, xs, i, v, rfl, rfl, h, ha, q⟩
theorem g_ixS {z : Str} {i : Int} {c : Nat} (h : z.length ≤ sizeLine) (ha : atI z.cps.toList i = some c) (q : Q (.str ⟨#[c]⟩) H) : rIxS (.str z) (.int i) H Q := ⟨z, i, c, rfl, rfl, h, ha, q⟩
theorem g_setL {p : Addr} {xs : List V} {k : Int} {j : Nat} {QH : Hp → Prop} (h : H p = some (.lst xs)) (hj : ixN xs.length k = some j) (q : QH (upd H p (.lst (xs.set j v)))) : rSetL (.ref p) (.int k) v H QH := ⟨p, xs, k, j, rfl, rfl, h, hj, q⟩
theorem g_true {A B : Prop} {b : Bool} (h : b = true) (q : A) : if b = true then A else B := by
  rw [if_pos h]
  exact q
theorem g_false {A B : Prop} {b : Bool} (h : b = false) (q : B) : if b = true then A else B := by
  rw [if_neg (by rw [h]; exact Bool.false_ne_true)]
  exact q
theorem g_rng1 {ta : TA} {R : It → Hp → Prop} (h : ta σ H fun vs H1 => ∃ j : Int, vs = [.int j] ∧ -(2 ^ 62) ≤ j ∧ j < 2 ^ 62 ∧ R (Itr 0 j.toNat) H1) : iRng1 ta σ H R := h
end
/-- the heap's lookups -/
theorem look_same {H : Hp} {a b : Addr} {o u : HO} (h : a = b) (e : o = u) : upd H b o a = some u := by
  subst h
  subst e
  exact upd_same
theorem look_past {H : Hp} {a b : Addr} {o u : HO} (n : a ≠ b) (h : H a = some u) : upd H b o a = some u := by
  rw [upd_ne n]
  exact h
theorem gone_past {H : Hp} {a b : Addr} {o : HO} (h : upd H b o a = none) : a ≠ b ∧ H a = none := by
  by_cases e : a = b
  · subst e
    rw [upd_same] at h
    cases h
  · rw [upd_ne e] at h
    exact ⟨e, h⟩

/-! ### calls of built-in names, by their values -/
section
variable {X : Cx} {H : Hp} {Q : VK} {i : Int} {K : PySem.W.Frag}
def rIntI : List V → Hp → VK → Prop := fun xs H Q => ∃ i, xs = [.int i] ∧ Q (.int i) H
def rIntB : List V → Hp → VK → Prop := fun xs H Q => ∃ k, xs = [.bl k] ∧ Q (.int (if k then 1 else 0)) H
def rAbs : List V → Hp → VK → Prop := fun xs H Q => ∃ i, xs = [.int i] ∧ Q (.int (if i < 0 then -i else i)) H
def rLenL (K : PySem.W.Frag) : List V → Hp → VK → Prop := fun xs H Q => ∃ p ys, xs = [.ref p] ∧ (SqL K H p ys ∨ SqT K H p ys) ∧ Q (.int ys.length) H
def rLenS : List V → Hp → VK → Prop := fun xs H Q => ∃ z, xs = [.str z] ∧ z.length ≤ sizeLine ∧ Q (.int z.length) H
def rListL (K : PySem.W.Frag) : List V → Hp → VK → Prop := fun xs H Q => ∃ p ys, xs = [.ref p] ∧ (SqL K H p ys ∨ SqT K H p ys) ∧ ∀ l, H l = none → Q (.ref l) (upd H l (.lst ys))
def rStrI : List V → Hp → VK → Prop := fun xs H Q => ∃ i, xs = [.int i] ∧ i.natAbs.log2 < 1920 ∧ Q (.str (toString i)) H
theorem call_intI : CallR X (.type "int") rIntI := fun pins s σ H xs us Q I r h => call_int1 pins s σ H xs us Q I r (.inl h)
theorem call_intB : CallR X (.type "int") rIntB := fun pins s σ H xs us Q I r h => call_int1 pins s σ H xs us Q I r (.inr h)
theorem call_absI : CallR X (.builtin "abs") rAbs := call_abs
theorem call_lenL : CallR X (.builtin "len") (rLenL X.K) := call_len_seq
theorem call_lenS : CallR X (.builtin "len") rLenS := call_len_str
theorem call_listL : CallR X (.type "list") (rListL X.K) := call_list_of
theorem call_strI : CallR X (.type "str") rStrI := call_str_int
theorem g_intI (q : Q (.int i) H) : rIntI [.int i] H Q := ⟨i, rfl, q⟩
theorem g_intB {k : Bool} (q : Q (.int (if k then 1 else 0)) H) : rIntB [.bl k] H Q := ⟨k, rfl, q⟩
theorem g_abs (q : Q (.int (if i < 0 then -i else i)) H) : rAbs [.int i] H Q := ⟨i, rfl, q⟩
theorem g_lenL {p : Addr} {ys : List V} (h : SqL K H p ys) (q : Q (.int ys.length) H) : rLenL K [.ref p] H Q := ⟨p, ys, rfl, .inl h, q⟩
theorem g_lenT {p : Addr} {ys : List V} (h : SqT K H p ys) (q : Q (.int ys.length) H) : rLenL K [.ref p] H Q := ⟨p, ys, rfl, .inr h, q⟩
theorem g_lenS {z : Str} (h : z.length ≤ sizeLine) (q : Q (.int z.length) H) : rLenS [.str z] H Q := ⟨z, rfl, h, q⟩
theorem g_listL {p : Addr} {ys : List V} (h : SqL K H p ys) (q : ∀ l, H l = none → Q (.ref l) (upd H l (.lst ys))) : rListL K [.ref p] H Q := ⟨p, ys, rfl, .inl h, q⟩
theorem g_strI (h : i.natAbs.log2 < 1920) (q : Q (.str (toString i)) H) : rStrI [.int i] H Q := ⟨i, rfl, h, q⟩
theorem g_eqD {x y : V} {d e : PyData} (hd : Dp K H x d) (he : Dp K H y e) (sd : SeqAt.shaped d = true) (se : SeqAt.shaped e = true) (q : Q (.bl (PyData.eqv d e)) H) : rEqD K x y H Q := ⟨d, e, hd, he, sd, se, q⟩
theorem g_neD {x y : V} {d e : PyData} (hd : Dp K H x d) (he : Dp K H y e) (sd : SeqAt.shaped d = true) (se : SeqAt.shaped e = true) (q : Q (.bl (!PyData.eqv d e)) H) : rNeD K x y H Q := ⟨d, e, hd, he, sd, se, q⟩
theorem g_slL {p : Addr} {xs : List V} {lo hi : Option Int} (h : SqL K H p xs) (q : ∀ r, H r = none → Q (.ref r) (upd H r (.lst (cutV xs lo hi)))) : rSlL K (.ref p) lo hi H Q := ⟨p, xs, rfl, h, q⟩
theorem g_slS {z : Str} {lo hi : Option Int} (h : z.length ≤ sizeLine) (q : Q (.str (cutS z lo hi)) H) : rSlS (.str z) lo hi H Q := ⟨z, rfl, h, q⟩
theorem g_rep {l : Addr} {k : Int} {xs : List V} (h : H l = some (.lst xs)) (k0 : -(2 ^ 63) ≤ k) (k1 : k < 2 ^ 63) (z : xs.length * k.toNat ≤ sizeLine) (q : ∀ p, H p = none → Q (.ref p) (upd H p (.lst (List.replicate k.toNat xs).flatten))) : rRep (.ref l) (.int k) H Q :=
  ⟨l, k, xs, rfl, rfl, h, k0, k1, z, q⟩
theorem g_cat {l b : Addr} {xs zs : List V} (h : H l = some (.lst xs)) (h2 : H b = some (.lst zs)) (z : xs.length + zs.length ≤ sizeLine) (q : ∀ p, H p = none → Q (.ref p) (upd H p (.lst (xs ++ zs)))) : rCat (.ref l) (.ref b) H Q :=
  ⟨l, b, xs, zs, rfl, rfl, h, h2, z, q⟩
theorem g_part1 {W : Int → Prop} {i : Int} (q : W i) : ∃ j, V.int i = .int j ∧ W j := ⟨i, rfl, q⟩
theorem g_rng {W : Int → Prop} {i : Int} (h0 : -(2 ^ 62) ≤ i) (h1 : i < 2 ^ 62) (q : W i) : ∃ j : Int, [V.int i] = [.int j] ∧ -(2 ^ 62) ≤ j ∧ j < 2 ^ 62 ∧ W j := ⟨i, rfl, h0, h1, q⟩
end
/-! ### int lists as data -/
theorem dp_ints {K : PySem.W.Frag} {H : Hp} : ∀ ns : List Int, DpAll K H (ns.map V.int) (ns.map PyData.int)
  | [] => .nil
  | n :: r => .cons (.int n) (dp_ints r)
theorem canInts : ∀ ns : List Int, PyData.canLayAll0 (ns.map PyData.int) = true
  | [] => by simp [PyData.canLayAll0]
  | n :: r => by
    show PyData.canLayAll0 (PyData.int n :: r.map PyData.int) = true
    simp only [PyData.canLayAll0, PyData.canLay0, canInts r, Bool.and_self]
theorem depthInts : ∀ ns : List Int, PyData.depthAll (ns.map PyData.int) ≤ 1
  | [] => by simp [PyData.depthAll]
  | n :: r => by
    show PyData.depthAll (PyData.int n :: r.map PyData.int) ≤ 1
    have ih := depthInts r
    simp only [PyData.depthAll, PyData.depth]
    omega
theorem shapedInts (ns : List Int) : SeqAt.shaped (.list (ns.map PyData.int)) = true := by
  have d := depthInts ns
  have h1 : PyData.canLay0 (.list (ns.map PyData.int)) = true := by
    simp only [PyData.canLay0]
    exact canInts ns
  have h2 : PyData.depth (.list (ns.map PyData.int)) ≤ 64 := by
    simp only [PyData.depth]
    omega
  unfold SeqAt.shaped
  rw [h1, Bool.true_and]
  exact decide_eq_true h2
theorem eqvInts0 (ns : List Int) : PyData.eqv (.list (ns.map PyData.int)) (.list []) = decide (ns = []) := by
  cases ns with
  | nil => simp [PyData.eqv, PyData.eqvAll]
  | cons a r => simp [PyData.eqv, PyData.eqvAll]

/-- the rest by what holds ahead of it -/
theorem g_cut {t u : TS} {D : Ends} {σ : L2.St} {H : Hp} (W : L2.St → Hp → Prop) (hu : ∀ σ' H', W σ' H' → u D σ' H') (ht : ∀ R : L2.St → Hp → Prop, (∀ σ' H', W σ' H' → R σ' H') → t { D with nx := R } σ H) : tSeq t u D σ H := ht (u D) hu
theorem g_new {n : Nat} {W : Prop} (h : n ≤ sizeLine) (w : W) : n ≤ sizeLine ∧ W := ⟨h, w⟩
theorem g_rt {nx bk ct : L2.St → Hp → Prop} {rt : VK} {v : V} {H : Hp} (h : rt v H) : Ends.rt { nx := nx, rt := rt, bk := bk, ct := ct } v H := h
theorem g_nx {nx bk ct : L2.St → Hp → Prop} {rt : VK} {σ : L2.St} {H : Hp} (h : nx σ H) : Ends.nx { nx := nx, rt := rt, bk := bk, ct := ct } σ H := h
theorem small_of {n : Nat} (h : n ≤ 1000000) : n ≤ sizeLine := Nat.le_trans h (by decide)

/-- a rest by a written number, its value forgotten -/
theorem g_modC {i j : Int} {H : Hp} {Q : VK} (hj : 0 < j) (q : ∀ x : Int, 0 ≤ x → x < j → Q (.int x) H) : rI (fun _ j => 0 < j) (fun i j => .int (i % j)) (.int i) (.int j) H Q :=
  ⟨i, j, rfl, rfl, hj, q _ (Int.emod_nonneg i (by omega)) (Int.emod_lt_of_pos i hj)⟩
theorem pow3_ok {x z a c e : Int} (x0 : 0 ≤ x) (x1 : x < 2147483648) (z0 : 0 ≤ z) (z1 : z ≤ 100000) (a0 : 0 ≤ a) (a1 : a ≤ 1000) (c0 : 0 ≤ c) (c1 : c ≤ 1000000) (e0 : 0 ≤ e) (e1 : e ≤ 1000) : CPow (x * (2 * z + a) + c * z * z + e) 3 := by
  have h1 : x * (2 * z + a) ≤ 2147483648 * (2 * z + a) := Int.mul_le_mul_of_nonneg_right (by omega) (by omega)
  have h2 : 0 ≤ x * (2 * z + a) := Int.mul_nonneg x0 (by omega)
  have h3 : c * z ≤ 1000000 * z := Int.mul_le_mul_of_nonneg_right c1 z0
  have h4 : 0 ≤ c * z := Int.mul_nonneg c0 z0
  have h5 : c * z * z ≤ (1000000 * 100000) * z := Int.mul_le_mul_of_nonneg_right (by omega) z0
  have h6 : 0 ≤ c * z * z := Int.mul_nonneg h4 z0
  exact ⟨by decide, by decide, by omega⟩
theorem abs_ge {i n : Int} (h : n ≤ (if i < 0 then -i else i)) (m : Int) (hm : m = if i < 0 then -i else i) : n ≤ m := by
  rw [hm]
  exact h

section
variable {X : Cx} {H : Hp} {Q : VK} {K : PySem.W.Frag} {σ : L2.St}
/-- isinstance by a written class -/
theorem g_isi {x : V} {n c : String} {b : Bool} (ty : TyX K H x (.type n)) (h : kitB n c = some b) (q : Q (.bl b) H) : rIsi K [x, .ty c] H Q := ⟨x, .ty c, .type n, .type c, b, rfl, .ty c, ty, kit_ty h, q⟩
theorem g_notInS {c : Nat} {z : Str} (q : Q (.bl (!decide (c ∈ z.cps.toList))) H) : rNotInS (.str ⟨#[c]⟩) (.str z) H Q := ⟨c, z, rfl, rfl, q⟩
theorem g_inS {c : Nat} {z : Str} (q : Q (.bl (decide (c ∈ z.cps.toList))) H) : rInS (.str ⟨#[c]⟩) (.str z) H Q := ⟨c, z, rfl, rfl, q⟩
def rTxtB (f : Str → Bool) : V → List V → Hp → VK → Prop := fun x xs H Q => ∃ a, x = .str a ∧ xs = [] ∧ True ∧ Q (.bl (f a)) H
theorem mt_isasciiB : MtR X "str.isascii" (rTxtB Txt.isascii) := mt_isascii
theorem mt_islowerB : MtR X "str.islower" (rTxtB Txt.islower) := mt_islower
theorem mt_isalphaB : MtR X "str.isalpha" (rTxtB Txt.isalpha) := mt_isalpha
theorem g_txtB {f : Str → Bool} {a : Str} (q : Q (.bl (f a)) H) : rTxtB f (.str a) [] H Q := ⟨a, rfl, rfl, trivial, q⟩
theorem g_tyS {a : Str} {W : Prop} (w : W) : tyV K "str" (.str a) H ∧ W := ⟨rfl, w⟩
theorem g_chain {r r' : R2} {ta tb tc : TE} (h : ta σ H fun x H1 => tb σ H1 fun y H2 => r x y H2 fun z H3 => ∃ k, z = .bl k ∧ (if k = true then tc σ H3 fun w' H4 => r' y w' H4 Q else Q (.bl false) H3)) : tChain r r' ta tb tc σ H Q := h
theorem op_addS : OpR X (binaryOp .Add) rAddS := op_add_str
theorem g_addS {a b : Str} (h : a.length + b.length ≤ sizeLine) (q : Q (.str (a ++ b)) H) : rAddS (.str a) (.str b) H Q := ⟨a, b, rfl, rfl, h, q⟩
end

section
variable {H : Hp} {Q : VK} {K : PySem.W.Frag} {σ : L2.St}
def rJoin (K : PySem.W.Frag) : V → List V → Hp → VK → Prop := fun x xs H Q => ∃ a p, ∃ ys : List Str, x = .str a ∧ xs = [.ref p] ∧ (SqL K H p (ys.map V.str) ∨ SqT K H p (ys.map V.str)) ∧ (ys.map (·.length)).sum + ys.length * a.length ≤ 16777216 ∧ Q (.str (Txt.join a ys)) H
theorem pe_joinJ {X : Cx} {o e : Expr} {to te : TE} {apos pos : Pos} (ho : PE X o to) (he : PE X e te) (hs : starEach [e] X.env = [(false, eval e X.env)] := by rfl) (hbase : attributeBase o "join" X.env (eval o X.env) = eval o X.env := by rfl) (hline : (apos.endLine == pos.line) = true := by rfl) :
    PE X (.Call (.Attribute o "join" apos) [e] [] pos) (tM1 (rJoin X.K) to te) := pe_join ho he hs hbase hline
theorem g_m1 {r : V → List V → Hp → VK → Prop} {to te : TE} (h : to σ H fun x H1 => (∃ a, x = .str a) ∧ te σ H1 fun y H2 => r x [y] H2 Q) : tM1 r to te σ H Q := h
theorem g_isStr {a : Str} {W : Prop} (w : W) : (∃ b, V.str a = .str b) ∧ W := ⟨⟨a, rfl⟩, w⟩
theorem g_join {a : Str} {p : Addr} {ys : List Str} (h : SqL K H p (ys.map V.str)) (z : (ys.map (·.length)).sum + ys.length * a.length ≤ 16777216) (q : Q (.str (Txt.join a ys)) H) : rJoin K (.str a) [.ref p] H Q := ⟨a, p, ys, rfl, rfl, .inl h, z, q⟩
end
theorem join_signs (l : List Nat) : Txt.join (Str.ofString "") (l.map fun c => (⟨#[c]⟩ : Str)) = ⟨l.toArray⟩ := by
  have e : TL.tl (Txt.join (Str.ofString "") (l.map fun c => (⟨#[c]⟩ : Str))) = l := by
    rw [TL.join_eq, TL.tl_join]
    have z : TL.tl (Str.ofString "") = [] := by decide +kernel
    rw [z, List.map_map]
    have flat : ∀ l : List (List Nat), TL.joinL [] l = l.flatten := by
      intro l
      induction l with
      | nil => rfl
      | cons p r ih =>
        cases r with
        | nil =>
          show p = _
          simp
        | cons q r =>
          show p ++ ([] ++ TL.joinL [] (q :: r)) = _
          rw [List.nil_append, ih]
          rfl
    rw [flat]
    induction l with
    | nil => rfl
    | cons c r ih =>
      rw [List.map_cons, List.flatten_cons, ih]
      rfl
  refine TL.ext_tl ?_
  rw [e]

/-! ### loops and comprehensions: what is left behind the walked thing -/
def FOR (J : It) (g : TG) (tb : TS) (D : Ends) (σ : L2.St) (H1 : Hp) : Prop := ∃ W : Nat → Nat → L2.St → Hp → Prop, (∃ m, W 0 m σ H1) ∧ ∀ i m σ H, W i m σ H →
  (J.stop i H ∧ D.nx σ H) ∨ (J.go i H ∧ ∃ N : L2.St → Hp → Prop, (∀ σ' H', N σ' H' → ∃ m', m' < m ∧ W (i + 1) m' σ' H') ∧ ∀ x H', J.yld i H x H' → g x σ H' fun σ2 H2 => tb { D with nx := N, ct := N, bk := D.nx } σ2 H2)
theorem g_for {wi : TI} {g : TG} {tb : TS} {D : Ends} {σ : L2.St} {H : Hp} (h : wi σ H fun J H1 => FOR J g tb D σ H1) : tFor wi g tb D σ H := h
def LCF (J : It) (g : TG) (tt : TT) (te : TE) (vs : List Nat) (σ : L2.St) (H1 : Hp) (D : Addr) (Q : VK) : Prop := ∃ W : Nat → Nat → Hp → Prop, (∃ m, W 0 m (upd H1 D (.lst []))) ∧ ∀ i m H, W i m H →
  (J.stop i H ∧ Q (.ref D) H) ∨ (J.go i H ∧ ∃ Nx : Hp → Prop, (∀ H', Nx H' → ∃ m', m' < m ∧ W (i + 1) m' H') ∧ ∀ x H', J.yld i H x H' → g x (wipe σ vs) H' fun σ2 H2 => wipe σ2 vs = wipe σ vs ∧ tt σ2 H2 fun b H3 =>
    if b = true then te σ2 H3 fun y H4 => ∃ acc, H4 D = some (.lst acc) ∧ acc.length < sizeLine ∧ Nx (upd H4 D (.lst (acc ++ [y]))) else Nx H3)
theorem g_lc {wi : TI} {g : TG} {tt : TT} {te : TE} {vs : List Nat} {σ : L2.St} {H : Hp} {Q : VK} (h : wi σ H fun J H1 => ∀ D, H1 D = none → LCF J g tt te vs σ H1 D Q) : tLc wi g tt te vs σ H Q := h
theorem g_iL {K : PySem.W.Frag} {tl : TE} {σ : L2.St} {H : Hp} {R : It → Hp → Prop} (h : tl σ H fun x H1 => ∃ a, x = .ref a ∧ (∃ xs, SqL K H1 a xs) ∧ R (Itl K a) H1) : iList K tl σ H R := h
theorem g_iT {K : PySem.W.Frag} {tl : TE} {σ : L2.St} {H : Hp} {R : It → Hp → Prop} (h : tl σ H fun x H1 => ∃ a, x = .ref a ∧ (∃ xs, SqT K H1 a xs) ∧ R (Itt K a) H1) : iTup K tl σ H R := h
theorem g_iS {te : TE} {σ : L2.St} {H : Hp} {R : It → Hp → Prop} (h : te σ H fun v H1 => ∃ x, v = .str x ∧ R (Its x) H1) : iStr te σ H R := h
theorem g_atL {K : PySem.W.Frag} {a : Addr} {xs : List V} {H : Hp} {W : Addr → Prop} (h : SqL K H a xs) (w : W a) : ∃ b, V.ref a = .ref b ∧ (∃ xs, SqL K H b xs) ∧ W b := ⟨a, rfl, ⟨xs, h⟩, w⟩
theorem g_atT {K : PySem.W.Frag} {a : Addr} {xs : List V} {H : Hp} {W : Addr → Prop} (h : SqT K H a xs) (w : W a) : ∃ b, V.ref a = .ref b ∧ (∃ xs, SqT K H b xs) ∧ W b := ⟨a, rfl, ⟨xs, h⟩, w⟩
theorem g_atS {z : Str} {W : Str → Prop} (w : W z) : ∃ x, V.str z = .str x ∧ W x := ⟨z, rfl, w⟩

/-! ### a call by keywords alone -/
section
variable {X : Cx} {CX : CXT} {k : Nat} {f : Addr} {fd : FuncData} {ps ks : List Str} {sp : Sp} {E : XK} {x : Str} {p pos : Pos} {kws : List Keyword} {tk : TA} {g : List Value → List Value → List Value} {gV : List V → List V → List V}
theorem pe_callK0 (F : FnOk X.prog X.w X.K X.mg X.base CX k f fd ps sp) (hr : Room k X.A) (hg : Gl X x) (hm : X.mg x = some (.ref f)) (hk : PySem.W.keepIn X.K (.ref f) = true) (hb : KBinds X.K fd ps ks g gV) (hx : Passes CX X E)
    (hkw : PK X kws tk) (hall : (backToKw pos (keywordEach kws X.env)).all (·.1.isSome) = true := by rfl) (hks : (backToKw pos (keywordEach kws X.env)).filterMap (·.1) = ks := by rfl)
    (hdb : (x == ("__debug__" : Str)) = false := by decide) (hpl : ((backTo pos (starEach [] X.env)).any (·.1) || (backToKw pos (keywordEach kws X.env)).any (·.1.isNone)) = false := by rfl) :
    PE X (.Call (.Name x p) [] kws pos) (L2.tCallK sp gV E tNil tk) := by
  constructor
  intro pins s σ H Q I h
  apply wpAny_Call_Name_kw
  refine ld_glob I hg hm ?_ hdb
  refine PySem.W.callWith_KW0 (h₀ := X.base) I.ok.mod.kin hk hall ?_ hpl
  refine thn (hkw.run pos pins s σ H _ I h) ?_
  rintro ws s2 ⟨zs, H2, I2, rz, q2⟩
  refine ⟨I2.kIn, ?_⟩
  rw [hks]
  exact run_fnk F hr hb hx I2 .nil rz q2
end
/-- one parameter, handed over by its name -/
theorem kb_one {K : PySem.W.Frag} {x qual a : Str} {st : Stmt} {f : Addr} {fd : FuncData} (F : Fun K x qual st f fd)
    (h0 : ∀ (kV doc pm : Value) (an : Option Addr) (cdv ct u : Value), bindArgs (PySem.W.fnOf x qual (defArgs st) (defBody st) (defScope st) .none kV doc pm an cdv ct) ⟨[u], []⟩ = pure [(a, u)])
    (h1 : ∀ (kV doc pm : Value) (an : Option Addr) (cdv ct u : Value), bindArgs (PySem.W.fnOf x qual (defArgs st) (defBody st) (defScope st) .none kV doc pm an cdv ct) ⟨[], [(a, u)]⟩ = pure [(a, u)]) :
    KBinds K fd [a] [a] (fun us ws => us ++ ws) (fun vs zs => vs ++ zs) := by
  obtain ⟨oc, od, kV, doc, pm, an, cdv, ct, osl, rfl, lk, hcd⟩ := F.ex
  refine ⟨fun s us ws _ hl => ?_, fun r q => r.append q⟩
  match us, ws, hl with
  | [u], [], _ => exact .of_eq (h0 kV doc pm an cdv ct u)
  | [], [u], _ => exact .of_eq (h1 kV doc pm an cdv ct u)
theorem g_repr {K : PySem.W.Frag} {H : Hp} {Q : VK} {a : Addr} (d : PyData) (hd : Dp K H (.ref a) d) (sh : d.showable = true ∧ d.hasDict = false ∧ d.depth ≤ 40 ∧ d.shown.length ≤ sizeLine) (q : Q (.str d.shown) H) : rRepr K [.ref a] H Q :=
  ⟨a, d, rfl, hd, sh.1, sh.2.1, sh.2.2.1, sh.2.2.2, q⟩
theorem g_dnew {σ : L2.St} {H : Hp} {Q : VK} (q : ∀ d, H d = none → Q (.ref d) (upd H d (.dK []))) : tDNewK σ H Q := q
theorem g_disp1 {σ : L2.St} {H : Hp} {Q : VK} {tk tv : TE} (q : ∀ p, H p = none → tk σ (upd H p (.dK [])) fun x H1 => tv σ H1 fun y H2 => H2 p = some (.dK []) ∧ ∃ kvs : List (Key × V), [(x, y)] = kvs.map (fun kv => (kV kv.1, kv.2)) ∧ kvs.length ≤ 15 ∧ Q (.ref p) (upd H2 p (.dK (mergeK [] kvs)))) : tDisp [(tk, tv)] σ H Q := q
theorem g_pair1 {A : Prop} {W : List (Key × V) → Prop} {x y : V} (k : Key) (e : x = kV k) (h : A) (q : W [(k, y)]) : A ∧ ∃ kvs : List (Key × V), [(x, y)] = kvs.map (fun kv => (kV kv.1, kv.2)) ∧ kvs.length ≤ 15 ∧ W kvs :=
  ⟨h, [(k, y)], by rw [e]; rfl, by (show 1 ≤ 15); decide, q⟩
end EvG

/-! Errors of own classes, held as values: made by place and by name, stored into, read, asked for their class. -/
namespace EvX
open PySem PySem.Spec PySem.Calls PyProof.Rows L2
section
variable {P : Program} {w : World} {M : Model} {A : Around} {E : Value → Shared → Prop} {R : Result → Shared → Prop} {h : Heap} {g : Array GenState} {d : Drawn} {t : Nat} {os : OsState}
variable {nm q : Str} {C N : Addr} {bs bm bmB : List Value} {hd : Bool} {sn : List Str} {sub : List Value} {ab : Bool} {col : Option Bool} {dd : Option Addr} {k0 k1 k2 k3 k5 : Option Value} {B newId initId : String}
  {us : List Value} {kw : List (Str × Value)}
theorem chk_new (F : ExcBaseFacts B newId initId bmB) (hT : ∀ Y : String, bm.contains (.type Y) = bmB.contains (.type Y)) {Q : Unit → Shared → Prop} (hC : h.get? C = some (excClassObj nm q C N bs bm hd sn sub ab col dd k0 k1 k2 k3 k5 newId))
    (hq : Q () ⟨h, g, d, t, os⟩) : wpAny M A (checkBuiltinCall newId ⟨.ref C :: us, kw⟩) Q E ⟨h, g, d, t, os⟩ := by
  have c1 : (Value.ref C :: bm).contains (.type B) = true := by
    rw [List.contains_cons, hT, F.hasB]
    exact Bool.or_true _
  have st := F.noStar
  simp only [checkBuiltinCall, F.newKind, F.newSplit, F.newRow]
  repeat (first
    | refine wpAny_loadPart_at hC ?_
    | (refine wpAny_isSubtype_exc hC ?_; rw [c1])
    | refine wpAny_staticBase_exc hC ?_
    | refine wpAny_madeBy_exc hC ?_
    | simp only [bne_self_eq_false, Bool.false_eq_true, if_false]
    | wp_step)
  exact hq
theorem run_new (F : ExcBaseFacts B newId initId bmB) (hT : ∀ Y : String, bm.contains (.type Y) = bmB.contains (.type Y)) (hC : h.get? C = some (excClassObj nm q C N bs bm hd sn sub ab col dd k0 k1 k2 k3 k5 newId)) (hz : us.length ≤ sizeLine)
    (hq : R (.ok (.ret (.ref (h.objs.size + 1)))) ⟨(h.push (PySem.W.kdv_tup us)).push (PySem.HandSPX.excO C h.objs.size), g, d, t, os⟩) : codeAny (model P w) A (.builtin newId ⟨.ref C :: us, kw⟩) R ⟨h, g, d, t, os⟩ := by
  have ends := F.ends
  have c1 : (Value.ref C :: bm).contains (.type B) = true := by
    rw [List.contains_cons, hT, F.hasB]
    exact Bool.or_true _
  have c2 : (Value.ref C :: bm).contains (.type "AttributeError") = false := by
    rw [List.contains_cons, hT, F.noAttr]
    rfl
  have c3 : (Value.ref C :: bm).contains (.type "NameError") = false := by
    rw [List.contains_cons, hT, F.noName]
    rfl
  apply codeAny_builtinAt F.entry
  unfold Builtin.«BaseException.__new__»
  apply PySem.wpAt_bind
  show PySem.wpAt _ _ _ (stack >>= _) _ _ _
  refine PySem.wpAt_bind (PySem.wpAt_stack fun p r => PySem.wpAt_of_wpAny ?_)
  wp_walk
  apply PySem.wpAt_of_wpAny
  rw [F.owner]
  repeat (first
    | with_reducible refine wpAny_madeHere_exc F.canon hC ?_
    | with_reducible refine wpAny_loadPart_at hC ?_
    | (with_reducible refine wpAny_isSubtype_exc hC ?_
       first | rw [c1] | rw [c2] | rw [c3])
    | wp_step)
  show R _ _
  rw [Heap.size_push]
  exact hq
theorem tcall_own (F : ExcBaseFacts B newId initId bmB) (hT : ∀ Y : String, bm.contains (.type Y) = bmB.contains (.type Y)) {fI : Addr} {Q : Fin → Shared → Prop} (hC : h.get? C = some (excClassObj nm q C N bs bm hd sn sub ab col dd k0 k1 k2 k3 k5 newId))
    (hi : PySem.W.Looks (model P w) h (typeLookup (.ref C) "__init__") (some (.ref fI))) (hb : ∀ self, PySem.W.Looks (model P w) h (bindSpecial (.ref fI) self) (.ref fI, [self])) (hz : us.length ≤ sizeLine)
    (hq : codeAny (model P w) A (.call (.ref fI) ⟨.ref (h.objs.size + 1) :: us, kw⟩) (fun r s' => match r with | .ok (.ret v) => v = .none ∧ Q (.done (.ret (.ref (h.objs.size + 1)))) s' | .ok _ => False | .error e => E e s')
      ⟨(h.push (PySem.W.kdv_tup us)).push (PySem.HandSPX.excO C h.objs.size), g, d, t, os⟩) :
    wpAny (model P w) A (Builtin.«type.__call__» ⟨.ref C :: us, kw⟩) Q E ⟨h, g, d, t, os⟩ := by
  repeat (first
    | with_reducible refine wpAny_loadPart_at hC ?_
    | with_reducible refine wpAny_madeBy_exc hC ?_
    | wp_step)
  refine codeAny_call_builtin_code (Code.quiet_builtin _ F.quiet) (chk_new F hT hC ?_)
  refine run_new F hT hC hz ?_
  show wpAny _ _ _ _ _ _
  have kept : ∀ b o, h.get? b = some o → ((h.push (PySem.W.kdv_tup us)).push (PySem.HandSPX.excO C h.objs.size)).get? b = some o := fun b o e => Heap.get?_push_of_some _ (Heap.get?_push_of_some _ e)
  have there : ((h.push (PySem.W.kdv_tup us)).push (PySem.HandSPX.excO C h.objs.size)).get? (h.objs.size + 1) = some (PySem.HandSPX.excO C h.objs.size) := by heap_get
  have c1 : (Value.ref C :: bm).contains (.ref C) = true := by simp
  have hC2 := kept _ _ hC
  have i1 := hi.keeps kept
  have b1 := (hb (.ref (h.objs.size + 1))).keeps kept
  unfold isInstance
  repeat (first
    | with_reducible refine wpAny_loadPart_at there ?_
    | (with_reducible refine wpAny_isSubtype_exc hC2 ?_; rw [c1])
    | wp_step)
  show wpAny _ _ (typeLookup (.ref C) _) _ _ _
  apply i1.at
  refine wpAny_holding (wpAny_bind (b1.at ?_))
  refine wpAny_bind (wpAny_call (codeAny_mono hq fun r s' z => ?_))
  cases r with
  | error e => exact z
  | ok f =>
    cases f with
    | ret v =>
      obtain ⟨rfl, z⟩ := z
      first
        | exact wpAny_pure (wpAny_pure z)
        | (wp_walk; exact z)
    | next => exact z.elim
    | brk => exact z.elim
    | cont => exact z.elim
theorem call_made (F : ExcBaseFacts B newId initId bmB) (hT : ∀ Y : String, bm.contains (.type Y) = bmB.contains (.type Y)) {fI : Addr} (hC : h.get? C = some (excClassObj nm q C N bs bm hd sn sub ab col dd k0 k1 k2 k3 k5 newId))
    (hi : PySem.W.Looks (model P w) h (typeLookup (.ref C) "__init__") (some (.ref fI))) (hb : ∀ self, PySem.W.Looks (model P w) h (bindSpecial (.ref fI) self) (.ref fI, [self])) (hz : us.length ≤ sizeLine)
    (hq : codeAny (model P w) (A.under (.builtin "type.__call__" ⟨.ref C :: us, kw⟩)) (.call (.ref fI) ⟨.ref (h.objs.size + 1) :: us, kw⟩) (PySem.W.InitBack (h.objs.size + 1) R)
      ⟨(h.push (PySem.W.kdv_tup us)).push (PySem.HandSPX.excO C h.objs.size), g, d, t, os⟩) :
    codeAny (model P w) A (.call (.ref C) ⟨us, kw⟩) R ⟨h, g, d, t, os⟩ := by
  have f1 := tc_lookup
  have f2 := tc_bind (.ref C)
  have ty : (⟨h, g, d, t, os⟩ : Shared).TypeIs (.ref C) "type" := ⟨_, hC, rfl⟩
  apply codeAny_of_tree
  show wpAny _ _ (callAny (.ref C) _) _ _ _
  repeat (any_goals (first
    | assumption
    | with_reducible refine wpAny_loadPart_at hC ?_
    | wp_step))
  refine ⟨rfl, ?_⟩
  refine codeAny_call_builtin_at (Code.quiet_builtin _ (by decide +kernel)) entry_typeCall (wpAny_check_type_call_sub hC (tcall_own F hT hC hi hb hz ?_))
  refine codeAny_mono hq fun r s' z => ?_
  cases r with
  | error e => exact z
  | ok f => cases f <;> exact z
end
end EvX

namespace EvX
open PySem PySem.Spec PySem.Calls PyProof.Rows L2 Builtin.ObjectAttr
/-- what a class of errors says of its things, so that they are asked and read -/
structure AskC (K : PySem.W.Frag) (C : Addr) : Prop where
  hd : PySem.W.hasDictIn K C = true
  ga : PySem.W.findIn K (.ref C) "__getattribute__" = some (some (.builtin "BaseException.__getattribute__"))
  gg : PySem.W.findIn K (.ref C) "__getattr__" = some none
  exC : PySem.W.subIn K (.ref C) (.type "BaseException") = some true
  ca : PySem.W.findIn K (.ref C) "__class__" = some (some (.builtin "object.__class__"))
  cn : PySem.W.specialIn K (.builtin "object.__class__") "__get__" = some (some (.builtin "getset_descriptor.__get__"))
  ct : PySem.W.takesIn K (.builtin "object.__class__") = some true
  cm : PySem.W.mroIn K C (.type "object") = some true
  keep : PySem.W.keepIn K (.ref C) = true
/-- and one that has its own __init__, over the built-in class B -/
structure ErrC (K : PySem.W.Frag) (C : Addr) (B newId initId : String) (bmB : List Value) : Prop where
  base : ExcBaseFacts B newId initId bmB
  sf : StoreFacts B bmB "object.__setattr__" "object"
  made : PySem.W.excInitIn K C bmB newId = true
  over : PySem.W.excOver K C bmB = true
  sa : PySem.W.findIn K (.ref C) "__setattr__" = some (some (.builtin "object.__setattr__"))
  ask : AskC K C
def eOb (C t : Addr) (d : Option Addr) : Obj := { cls := .ref C, dict := d, data := .fields #[.ref t, .none, .none, .none, .bool false, .none] }
section
variable {X : Cx} {pins : List (Addr × Obj)} {σ : L2.St} {H : Hp} {s : Shared} {a C dx : Addr} {f : Str} {y : V} {u : Value} {fs : List (Str × V)} {Q : Unit → Shared → Prop} {E : Value → Shared → Prop} {A : Around} {B newId initId : String} {bmB : List Value}
theorem two_written {h' : Heap} {n : Nat} (I : Inv X pins σ H s) (e : H a = some (exo a C none)) (k : ∀ b o, b ≠ a → s.heap.get? b = some o → h'.get? b = some o) (dn : s.heap.objs.size ≤ dx) {t : Addr} (hx : h'.get? a = some (eOb C t (some dx)))
    {mA : Str → Option Value} (hn : h'.Ns1 dx mA) (r : ∀ g, RelO (fs.lookup g) (mA g)) :
    Inv X pins σ (upd (upd H dx (exd dx fs)) a (exo a C (some dx))) { s with heap := h', toks := n } := by
  have gone : H dx = none := I.hok.fresh dn
  have past : ∀ {b : Addr} {o : Obj}, s.heap.get? b = some o → b ≠ dx := by
    intro b o q z
    subst z
    exact absurd (Heap.lt_size q) (Nat.not_lt.mpr dn)
  have off : ∀ {b : Addr}, H b = none → b ≠ a := by
    intro b n z
    rw [z, e] at n
    cases n
  have un : Un X.fs [] H (upd (upd H dx (exd dx fs)) a (exo a C (some dx))) s.heap h' := by
    refine ⟨?_, ?_, ?_, ?_, ?_, ?_, ?_⟩
    · intro b o q n _ _
      exact k b o (off n) q
    · intro b o q n _ _
      exact ⟨o.slots, k b o (off n) q⟩
    · intro b o q n _
      rw [upd_ne (off n), upd_ne (past q)]
      exact n
    · intro b o q _
      by_cases z : b = a
      · subst z
        exact ⟨_, hx⟩
      · exact ⟨o, k b o z q⟩
    · intro b xs q
      rw [upd_ne (at_ne e q exo_tup), upd_ne (ne_of_none q gone)]
      exact q
    · intro b o v q
      rw [upd_ne (at_ne e q exo_frz), upd_ne (ne_of_none q gone)]
      exact q
    · intro b ps q
      refine ⟨#[], ?_⟩
      rw [upd_ne (at_ne e q exo_tbl), upd_ne (ne_of_none q gone), q]
      simp
  refine I.un un ?_
  intro b o q
  by_cases z : b = a
  · subst z
    rw [upd_same] at q
    cases q
    exact exo_ok hx
  rw [upd_ne z] at q
  by_cases z2 : b = dx
  · subst z2
    rw [upd_same] at q
    cases q
    exact exd_ok hn r
  rw [upd_ne z2] at q
  refine (I.hok b o q).stay ?_ ?_ ?_
  · intro c v hc w
    refine k c v ?_ w
    rcases hc with hc | hc
    · rw [hc]
      exact z
    · exact at_ne e hc exo_own
  · intro c hc
    rw [upd_ne (at_ne e hc exo_own), upd_ne (ne_of_none hc gone)]
    exact hc
  · intro c xs hc
    rw [upd_ne (at_ne e hc exo_tup), upd_ne (ne_of_none hc gone)]
    exact hc
/-- the first field -/
theorem put_new (T : ErrC X.K C B newId initId bmB) (I : Inv X pins σ H s) (e : H a = some (exo a C none)) (ht : PySem.W.takerIn X.K C f = some none) (ry : RelV y u)
    (h : ∀ dx s', H dx = none → dx ≠ a → Inv X pins σ (upd (upd H dx (exd dx [(f, y)])) a (exo a C (some dx))) s' → Q () s') : wpAny (model X.prog X.w) A (setAttr (.ref a) f u) Q E s := by
  obtain ⟨t1, ho⟩ := exo_at I.hok e
  obtain ⟨cd, hc, hd⟩ := PySem.W.any_some T.ask.hd
  have low : a < s.heap.objs.size := Heap.lt_size ho
  have new : H s.heap.objs.size = none := I.hok.fresh (Nat.le_refl _)
  obtain ⟨hp, g, d, tk, os⟩ := s
  refine PySem.W.set_plain I.kIn (ox := eOb C t1 none) (od := none) ⟨ho, rfl, rfl, trivial⟩ T.sa ?_
  refine PySem.W.osa_openX (od := none) T.sf I.kIn ⟨ho, rfl, rfl, trivial⟩ T.over ht fun b => ?_
  refine wpAny_bind (wpAny_pure (wpAny_bind (PySem.W.instanceDict_exc ho (PySem.W.looks_clsIn I.kIn hc) hd ?_)))
  show wpAny _ _ (storeInDict hp.objs.size (.str f _) f u) _ _ _
  have od : ((hp.push (PySem.W.dictOf [] 0)).update a fun o => { o with dict := some hp.objs.size }).get? hp.objs.size = some (PySem.W.dictOf [] 0) := (Heap.get?_update_ne _ _ _ _ (Nat.ne_of_gt low)).trans (Heap.get?_push_at rfl rfl)
  have oa : ((hp.push (PySem.W.dictOf [] 0)).update a fun o => { o with dict := some hp.objs.size }).get? a = some (eOb C t1 (some hp.objs.size)) := Heap.get?_update_self _ (Heap.get?_push_of_some _ ho) rfl
  refine PySem.HandSPX.store_in_new ⟨_, #[], _, od, rfl, fun e he => absurd he (by simp), fun _ => rfl⟩ ?_
  intro h' tk' hn sb
  refine h hp.objs.size ⟨h', g, d, tk', os⟩ new (Nat.ne_of_gt low) (two_written (s := ⟨hp, g, d, tk, os⟩) I e ?_ (Nat.le_refl _) (t := t1) ?_ hn (relO_put (fs := []) ry fun _ => trivial))
  · intro b o hb q
    exact (sb.2 b (Nat.ne_of_lt (Heap.lt_size q))).trans ((Heap.get?_update_ne _ _ _ _ hb).trans (Heap.get?_push_of_some _ q))
  · exact (sb.2 a (Nat.ne_of_lt low)).trans oa
/-- a further field -/
theorem put_more (T : ErrC X.K C B newId initId bmB) (I : Inv X pins σ H s) (e : H a = some (exo a C (some dx))) (ed : H dx = some (exd dx fs)) (hl : fs.length ≤ 900) (ht : PySem.W.takerIn X.K C f = some none) (ry : RelV y u)
    (h : ∀ s', Inv X pins σ (upd H dx (exd dx ((f, y) :: fs))) s' → Q () s') : wpAny (model X.prog X.w) A (setAttr (.ref a) f u) Q E s := by
  obtain ⟨t1, ho⟩ := exo_at I.hok e
  obtain ⟨mA, hns, rel⟩ := exd_at I.hok ed
  obtain ⟨cd, hc, hd⟩ := PySem.W.any_some T.ask.hd
  have hw := within_of rel
  obtain ⟨hp, g, d, tk, os⟩ := s
  obtain ⟨oD, _, _, hoD, _, _⟩ := hns.count hw
  refine PySem.W.set_plain I.kIn (ox := eOb C t1 (some dx)) (od := some oD) ⟨ho, rfl, rfl, hoD⟩ T.sa ?_
  refine PySem.W.osa_openX (od := some oD) T.sf I.kIn ⟨ho, rfl, rfl, hoD⟩ T.over ht fun b => ?_
  refine wpAny_bind (wpAny_pure (wpAny_bind (wpAny_bind (wpAny_loadPart ho (wpAny_bind ((PySem.W.looks_clsIn I.kIn hc).at ?_))))))
  rw [hd]
  refine wpAny_pure (a := some dx) ?_
  show wpAny _ _ (storeInDict dx (.str f _) f u) _ _ _
  refine PySem.OEX.store_in_old hns hw (by rw [List.length_map]; omega) ?_
  intro h' tk' hn sb
  have there : ∃ o, h'.get? dx = some o := by
    obtain ⟨o, _, _, q, _⟩ := hn
    exact ⟨o, q⟩
  exact h _ (I.write (x := dx) (e := dx) (o := exd dx ((f, y) :: fs)) (by rw [ed]; exact trivial) (.inl rfl) (fun b o hb q => (sb.2 b hb).trans q) there (exd_ok hn (relO_put ry rel)))
end
end EvX

namespace EvX
open PySem PySem.Spec PySem.Calls PyProof.Rows L2 Builtin.ObjectAttr
abbrev Ext (H H' : Hp) : Prop := Same H H'
theorem Same.rfl {H : Hp} : Ext H H := fun _ _ h => h
theorem Same.trans {H H1 H2 : Hp} (a : Ext H H1) (b : Ext H1 H2) : Ext H H2 := fun c o h => b c o (a c o h)
theorem ext_new {H : Hp} {a : Addr} {o : HO} (h : H a = none) : Ext H (upd H a o) := fun b u q => by
  rw [upd_ne (ne_of_none q h)]
  exact q
/-- an error of the class C with these fields stands at a -/
def IsE (C : Addr) (fs : List (Str × V)) (a : Addr) (H : Hp) : Prop := ∃ d, H a = some (exo a C d) ∧ match d with | none => fs = [] | some dx => H dx = some (exd dx fs)
theorem IsE.ext {C : Addr} {fs : List (Str × V)} {a : Addr} {H H' : Hp} (h : IsE C fs a H) (e : Ext H H') : IsE C fs a H' := by
  obtain ⟨d, h1, h2⟩ := h
  refine ⟨d, e _ _ h1, ?_⟩
  cases d with
  | none => exact h2
  | some dx => exact e _ _ h2
/-- the fields of the new error at a are laid -/
def LaidE (H : Hp) (a C : Addr) (fs : List (Str × V)) (H' : Hp) : Prop := ∃ dx, H dx = none ∧ dx ≠ a ∧ H' a = some (exo a C (some dx)) ∧ H' dx = some (exd dx fs) ∧ ∀ b, b ≠ a → b ≠ dx → H' b = H b
theorem LaidE.isE {H H' : Hp} {a C : Addr} {o : HO} {fs : List (Str × V)} (n : H a = none) (h : LaidE (upd H a o) a C fs H') : IsE C fs a H' ∧ Ext H H' := by
  obtain ⟨dx, h1, h2, h3, h4, h5⟩ := h
  refine ⟨⟨some dx, h3, h4⟩, fun b u q => ?_⟩
  have ba : b ≠ a := ne_of_none q n
  have n2 : H dx = none := by
    rw [upd_ne h2] at h1
    exact h1
  rw [h5 b ba (ne_of_none q n2), upd_ne ba]
  exact q
/-! ### self.f = e in an __init__ -/
def tPut (K : PySem.W.Frag) (f : Str) (to te : TE) : TS := fun D σ H => te σ H fun y H1 => to σ H1 fun x H2 => ∃ a C : Addr, x = .ref a ∧ (∃ B n i bm, ErrC K C B n i bm) ∧ PySem.W.takerIn K C f = some none ∧
  ((H2 a = some (exo a C none) ∧ ∀ H', LaidE H2 a C [(f, y)] H' → D.nx σ H') ∨ ∃ (H0 : Hp) (fs : List (Str × V)), LaidE H0 a C fs H2 ∧ fs.length ≤ 900 ∧ ∀ H', LaidE H0 a C ((f, y) :: fs) H' → D.nx σ H')
theorem ps_put {X : Cx} {o e : Expr} {to te : TE} {f : Str} {p' pos : Pos} (ho : PE X o to) (he : PE X e te) (hs : swapsWith e (some (.Attribute o f p')) pos.line X.env = pure false := by rfl) : PS X (.Assign [.Attribute o f p'] e pos) (tPut X.K f to te) := by
  constructor
  intro pins s σ H D I h
  refine plainObj_wpAny_Assign_Attribute (thn (he.run pins s σ H _ I h) ?_) hs
  rintro v s1 ⟨y, H1, I1, r1, q1⟩
  refine thn (ho.run pins s1 σ H1 _ I1 q1) ?_
  rintro u s2 ⟨x, H2, I2, r2, a, C, rfl, ⟨B, n, i, bm, T⟩, ht, q⟩
  obtain rfl : u = Value.ref a := r2
  rcases q with ⟨ea, q⟩ | ⟨H0, fs, L, hl, q⟩
  · refine put_new T I2 ea ht r1 ?_
    intro dx s' n ne J
    refine ⟨σ, _, J, q _ ⟨dx, n, ne, upd_same, ?_, fun b h1 h2 => ?_⟩⟩
    · rw [upd_ne ne, upd_same]
    · rw [upd_ne h1, upd_ne h2]
  · obtain ⟨dx, h1, h2, h3, h4, h5⟩ := L
    refine put_more T I2 h3 h4 hl ht r1 ?_
    intro s' J
    refine ⟨σ, _, J, q _ ⟨dx, h1, h2, ?_, upd_same, fun b b1 b2 => ?_⟩⟩
    · rw [upd_ne (Ne.symm h2)]
      exact h3
    · rw [upd_ne b2]
      exact h5 b b1 b2
/-! ### C(..) -/
/-- what an __init__ does that keeps its n values as these fields -/
def spI (C : Addr) (n : Nat) (F : List V → List (Str × V)) : Sp := fun vs H Q _ => ∃ a ys, vs = .ref a :: ys ∧ ys.length = n ∧ H a = some (exo a C none) ∧ ∀ H', LaidE H a C (F ys) H' → Q .non H'
section
variable {X : Cx} {CX : CXT} {k : Nat} {fI C : Addr} {fd : FuncData} {ps ks : List Str} {sp : Sp} {x : Str} {p pos : Pos} {e : Expr} {es : List Expr} {kws : List Keyword} {ta tk : TA} {g : List Value → List Value → List Value} {gV : List V → List V → List V} {B newId initId : String} {bmB : List Value}
theorem run_err {pins : List (Addr × Obj)} {σ : L2.St} {H : Hp} {s : Shared} {Q : VK} {us ws : List Value} {vs zs : List V} (T : ErrC X.K C B newId initId bmB) (iC : PySem.W.findIn X.K (.ref C) "__init__" = some (some (.ref fI))) (tI : PySem.W.typeIn X.K (.ref fI) = some (.type "function"))
    (F : FnOk X.prog X.w X.K X.mg X.base CX k fI fd ps sp) (hr : Room (k + 1) X.A) (hb : KBinds X.K fd ps ks g gV) (hx : Passes CX X (fun _ _ _ => False)) (I : Inv X pins σ H s) (r : Vals vs us) (rz : Vals zs ws) (hz : vs.length ≤ 1000)
    (h : ∀ a, H a = none → sp (gV (.ref a :: vs) zs) (upd H a (exo a C none)) (fun v H2 => v = .non ∧ Q (.ref a) H2) (fun _ _ _ => False)) :
    wpAny (model X.prog X.w) X.A (call (.ref C) us (ks.zip ws)) (EP X pins σ Q) X.xe s := by
  obtain ⟨nm, N', qn, bs, bm, hdct, sn, sub, ab, col, dd, k0, k1, k2, k3, k5, hC, hT⟩ := PySem.W.excInit_of I.kIn T.made
  obtain ⟨hp, gs, dr, tk, os⟩ := s
  have up : hp.objs.size ≤ hp.objs.size + 1 := Nat.le_succ _
  have new : H (hp.objs.size + 1) = none := I.hok.fresh up
  have hq := h (hp.objs.size + 1) new
  have kept : ∀ b o, hp.get? b = some o → ((hp.push (PySem.W.kdv_tup us)).push (PySem.HandSPX.excO C hp.objs.size)).get? b = some o := fun b o q => Heap.get?_push_of_some _ (Heap.get?_push_of_some _ q)
  have there : ((hp.push (PySem.W.kdv_tup us)).push (PySem.HandSPX.excO C hp.objs.size)).get? (hp.objs.size + 1) = some (PySem.HandSPX.excO C hp.objs.size) := by heap_get
  have J : Inv X pins σ (upd H (hp.objs.size + 1) (exo (hp.objs.size + 1) C none)) ⟨(hp.push (PySem.W.kdv_tup us)).push (PySem.HandSPX.excO C hp.objs.size), gs, dr, tk, os⟩ :=
    I.laid (t' := tk) kept up (exo_ok there)
  have r1 : Vals (V.ref (hp.objs.size + 1) :: vs) (Value.ref (hp.objs.size + 1) :: us) := .cons rfl r
  have r2 := hb.rel r1 rz
  have many : (g (Value.ref (hp.objs.size + 1) :: us) ws).length = ps.length := r2.length.symm.trans (F.len _ _ _ _ hq)
  have small : us.length ≤ sizeLine := by
    rw [← Paired.length r, sizeLine_eq]
    omega
  refine wpAny_call (call_made T.base hT hC (PySem.W.looks_findIn I.kIn iC) (fun self => PySem.W.bind_fn I.kIn self tI) small ?_)
  refine codeAny_mono (F.run _ X.stack _ _ ⟨Value.ref (hp.objs.size + 1) :: us, ks.zip ws⟩ (g (Value.ref (hp.objs.size + 1) :: us) ws) _ _ (fun _ _ _ => False) (hr.make C us (ks.zip ws)) (J.env0.make C us (ks.zip ws)) (hb.to _ _ ws J.kIn many) r2 hq) ?_
  intro res s' hq'
  cases res with
  | error er => exact hx pins σ _ _ er s' J hq'
  | ok fl =>
    cases fl with
    | next => exact hq'.elim
    | brk => exact hq'.elim
    | cont => exact hq'.elim
    | ret u =>
      obtain ⟨v, H2, I3, rv, ev, q3⟩ := J.after hq'
      subst ev
      exact ⟨rv, V.ref (hp.objs.size + 1), H2, I3, rfl, q3⟩
/-- C(e, ..) -/
def tMkE (C : Addr) (sp : Sp) (gV : List V → List V → List V) (ta tk : TA) : TE := fun σ H Q => ta σ H fun vs H1 => tk σ H1 fun zs H2 => vs.length ≤ 1000 ∧ ∀ a, H2 a = none → sp (gV (.ref a :: vs) zs) (upd H2 a (exo a C none)) (fun v H3 => v = .non ∧ Q (.ref a) H3) (fun _ _ _ => False)
theorem pe_mkE (T : ErrC X.K C B newId initId bmB) (iC : PySem.W.findIn X.K (.ref C) "__init__" = some (some (.ref fI))) (tI : PySem.W.typeIn X.K (.ref fI) = some (.type "function")) (F : FnOk X.prog X.w X.K X.mg X.base CX k fI fd ps sp) (hr : Room (k + 1) X.A)
    (hb : KBinds X.K fd ps [] g gV) (hx : Passes CX X (fun _ _ _ => False)) (hg : Gl X x) (hm : X.mg x = some (.ref C)) (ha : PA X (e :: es) ta)
    (hdb : (x == ("__debug__" : Str)) = false := by decide) (he : starEach (e :: es) X.env = (false, eval e X.env) :: starEach es X.env := by rfl) (hpl : (backTo pos (starEach es X.env)).any (·.1) = false := by rfl) :
    PE X (.Call (.Name x p) (e :: es) [] pos) (tMkE C sp gV ta tNil) := by
  constructor
  intro pins s σ H Q I h
  apply wpAny_Call_Name_kw
  refine ld_glob I hg hm ?_ hdb
  refine PySem.W.callWith_K (h₀ := X.base) I.ok.mod.kin T.ask.keep (thn (ha.run pos pins s σ H _ I h) ?_) he hpl
  rintro us s1 ⟨vs, H1, I1, r, q⟩
  obtain ⟨hz, q⟩ := (show vs.length ≤ 1000 ∧ _ from q)
  exact ⟨I1.kIn, run_err (ws := []) (zs := []) T iC tI F hr hb hx I1 r .nil hz q⟩
/-- C(k = e, ..) -/
theorem pe_mkEK (T : ErrC X.K C B newId initId bmB) (iC : PySem.W.findIn X.K (.ref C) "__init__" = some (some (.ref fI))) (tI : PySem.W.typeIn X.K (.ref fI) = some (.type "function")) (F : FnOk X.prog X.w X.K X.mg X.base CX k fI fd ps sp) (hr : Room (k + 1) X.A)
    (hb : KBinds X.K fd ps ks g gV) (hx : Passes CX X (fun _ _ _ => False)) (hg : Gl X x) (hm : X.mg x = some (.ref C)) (hkw : PK X kws tk)
    (hall : (backToKw pos (keywordEach kws X.env)).all (·.1.isSome) = true := by rfl) (hks : (backToKw pos (keywordEach kws X.env)).filterMap (·.1) = ks := by rfl)
    (hdb : (x == ("__debug__" : Str)) = false := by decide) (hpl : ((backTo pos (starEach [] X.env)).any (·.1) || (backToKw pos (keywordEach kws X.env)).any (·.1.isNone)) = false := by rfl) :
    PE X (.Call (.Name x p) [] kws pos) (tMkE C sp gV tNil tk) := by
  constructor
  intro pins s σ H Q I h
  apply wpAny_Call_Name_kw
  refine ld_glob I hg hm ?_ hdb
  refine PySem.W.callWith_KW0 (h₀ := X.base) I.ok.mod.kin T.ask.keep hall ?_ hpl
  refine thn (hkw.run pos pins s σ H _ I h) ?_
  rintro ws s2 ⟨zs, H2, I2, rz, q⟩
  obtain ⟨hz, q⟩ := (show ([] : List V).length ≤ 1000 ∧ _ from q)
  refine ⟨I2.kIn, ?_⟩
  rw [hks]
  exact run_err (us := []) (vs := []) T iC tI F hr hb hx I2 .nil rz hz q
/-- C(), C without an __init__ of its own -/
theorem pe_mk0 (F : ExcBaseFacts B newId initId bmB) (q : PySem.W.excIn X.K C bmB newId = true) (kC : PySem.W.keepIn X.K (.ref C) = true) (hg : Gl X x) (hm : X.mg x = some (.ref C))
    (hall : (backToKw pos (keywordEach [] X.env)).all (·.1.isSome) = true := by rfl) (hks : (backToKw pos (keywordEach [] X.env)).filterMap (·.1) = [] := by rfl)
    (hdb : (x == ("__debug__" : Str)) = false := by decide) (hpl : ((backTo pos (starEach [] X.env)).any (·.1) || (backToKw pos (keywordEach [] X.env)).any (·.1.isNone)) = false := by rfl) :
    PE X (.Call (.Name x p) [] [] pos) (fun _ H Q => ∀ a, H a = none → Q (.ref a) (upd H a (exo a C none))) := by
  constructor
  intro pins s σ H Q I h
  apply wpAny_Call_Name_kw
  refine ld_glob I hg hm ?_ hdb
  refine PySem.W.callWith_KW0 (h₀ := X.base) I.ok.mod.kin kC hall ?_ hpl
  refine thn ((pk_nil (X := X)).run pos pins s σ H (fun zs H1 => zs = [] ∧ H1 = H) I ⟨rfl, rfl⟩) ?_
  rintro ws s2 ⟨zs, H2, I2, rz, rfl, rfl⟩
  cases rz
  refine ⟨I2.kIn, ?_⟩
  rw [hks]
  show wpAny _ _ (call (.ref C) []) _ _ _
  obtain ⟨bm, N, nm, qn, bs, hdct, sn, sub, ab, col, dd, k0, k1, k2, k3, k5, mN, hC, hN, hni, T⟩ := exc_obj I2.kIn q
  refine wpAny_call_exc_subT F T hC hN hni (fun h' a hm' => ?_) (by show 0 ≤ sizeLine; omega)
  have hn : H2 a = none := I2.hok.gone hm'.new
  obtain ⟨t, ht, _, _⟩ := hm'.there
  exact ⟨.ref a, upd H2 a (exo a C none), I2.laidN hm'.keeps hm'.new hn (exo_ok ht), rfl, h a hn⟩
/-- binds of a call by place as binds by names -/
theorem kb_all (h : ∀ us : List Value, us.length = ps.length → bindArgs fd ⟨us, []⟩ = pure (ps.zip us)) : KBinds X.K fd ps [] (fun us _ => us) (fun vs _ => vs) :=
  ⟨fun s us ws _ hl => by
    have e : ([] : List Str).zip ws = [] := rfl
    rw [e]
    exact .of_eq (h us hl), fun r _ => r⟩
end
/-! ### e.f and isinstance(e, c) -/
section
variable {X : Cx} {C a : Addr} {fs : List (Str × V)}
def tFld (K : PySem.W.Frag) (f : Str) (te : TE) : TE := fun σ H Q => te σ H fun x H1 => ∃ (a C : Addr) (fs : List (Str × V)) (v : V), x = .ref a ∧ AskC K C ∧ PySem.W.findIn K (.ref C) f = some none ∧ IsE C fs a H1 ∧ fs.lookup f = some v ∧ Q v H1
theorem pe_fldE {e : Expr} {te : TE} {pos : Pos} {f : Str} (he : PE X e te) (hb : attributeBase e f X.env (eval e X.env) = eval e X.env := by rfl) : PE X (.Attribute e f pos) (tFld X.K f te) := by
  constructor
  intro pins s σ H Q I h
  refine attr_of hb (thn (he.run pins s σ H _ I h) ?_)
  rintro u s1 ⟨x, H1, I1, rx, a, C, fs, v, rfl, T, hno, ⟨d, ea, ed⟩, l, q⟩
  obtain rfl : u = Value.ref a := rx
  cases d with
  | none =>
    have z : fs = [] := ed
    subst z
    cases l
  | some dx =>
    obtain ⟨t1, ho⟩ := exo_at I1.hok ea
    obtain ⟨mA, hns, hr⟩ := exd_at I1.hok ed
    obtain ⟨od, hod, hl⟩ := lookIn_ns hns
    obtain ⟨w, hw, rw'⟩ := RelO.some_of (v := v) (o := mA f) (by rw [← l]; exact hr f)
    have J : PySem.W.InstAt s1.heap a (eOb C t1 (some dx)) C (some od) := ⟨ho, rfl, rfl, hod⟩
    exact HandSPX.exc_get I1.kIn J T.ga T.gg T.exC (PySem.W.findObj_own T.hd hno rfl (by rw [hl, hw])) (handed_of rw') ⟨v, H1, I1.tok _, rw', q⟩
def rAskE (K : PySem.W.Frag) : List V → Hp → VK → Prop := fun xs H Q => ∃ (a C : Addr) (fs : List (Str × V)) (c : V) (cv : Value) (b : Bool), xs = [.ref a, c] ∧ (∀ u, RelV c u → u = cv) ∧ AskC K C ∧ IsE C fs a H ∧ PySem.W.kitOne K (.ref C) cv = some b ∧ Q (.bl b) H
theorem call_askE : CallR X (.builtin "isinstance") (rAskE X.K) := by
  intro pins s σ H xs us Q I r h
  obtain ⟨a, C, fs, c, cv, b, rfl, hcv, T, ⟨d, ea, ed⟩, e, q⟩ := h
  obtain ⟨t1, ho⟩ := exo_at I.hok ea
  obtain ⟨cd, hc, _⟩ := PySem.W.any_some T.hd
  have own : (PySem.W.clsIn X.K C).isSome = true := by
    rw [hc]
    rfl
  cases r with
  | cons rx rr =>
    cases rr with
    | cons rt rr =>
      cases rr
      cases rx
      have ec := hcv _ rt
      subst ec
      have fin : ∀ tk, EP X pins σ Q (.bool b) { s with toks := tk } := fun tk => ⟨.bl b, H, I.kept (t' := tk) fun _ _ z => z, rfl, q⟩
      cases d with
      | none =>
        have J : PySem.W.InstAt s.heap a (eOb C t1 none) C none := ⟨ho, rfl, rfl, trivial⟩
        exact PySem.W.kia_one (PySem.W.kitx_exc own T.ga T.gg T.exC T.ca T.cn T.ct T.cm) I.kIn J e (fun z => nomatch z) fin
      | some dx =>
        obtain ⟨mA, ⟨od, es, ep, hod, _⟩, _⟩ := exd_at I.hok ed
        have J : PySem.W.InstAt s.heap a (eOb C t1 (some dx)) C (some od) := ⟨ho, rfl, rfl, hod⟩
        exact PySem.W.kia_one (PySem.W.kitx_exc own T.ga T.gg T.exC T.ca T.cn T.ct T.cm) I.kIn J e (fun z => nomatch z) fin
end
end EvX

/-! list(enumerate(xs)), xs a list -/
namespace EvX
open PySem PySem.Spec PySem.Calls PyProof.Rows L2
/-- the object of an enumerate whose last pair, at a, still lives -/
abbrev enOut (a it : Addr) (f : Bool) (i : Int) (old : Value) : Obj := { cls := .type "enumerate", dict := none, data := .fields #[rawInt a, .bool f, .ref it, rawInt i, .none, old], slots := #[] }
def EnS (h : Heap) (e it S : Addr) (i : Nat) : Prop := (∃ old, IsEnum h e it (i : Int) old) ∨ ∃ (a : Addr) (f : Bool) (old : Value) (o : Obj), h.get? e = some (enOut a it f (i : Int) old) ∧ h.get? a = some o ∧ a ≠ e ∧ a ≠ it ∧ a ≠ S
theorem EnS.keep {h h' : Heap} {e it S : Addr} {i : Nat} (x : EnS h e it S i) (k : ∀ b o, b ≠ S → h.get? b = some o → h'.get? b = some o) (n : e ≠ S) : EnS h' e it S i := by
  rcases x with ⟨old, q⟩ | ⟨a, f, old, o, q, qa, h1, h2, h3⟩
  · exact .inl ⟨old, k _ _ n q⟩
  · exact .inr ⟨a, f, old, o, k _ _ n q, k _ _ h3 qa, h1, h2, h3⟩
section
variable {P : Program} {w : World} {A : Around} {E : Value → Shared → Prop} {s : Shared} {e it l S : Addr} {i : Nat} {items : Array Value} {x : Value} {Q : Option Value → Shared → Prop}
theorem en_out {a : Addr} {f : Bool} {old : Value} {o : Obj} (he : s.heap.get? e = some (enOut a it f (i : Int) old)) (ha : s.heap.get? a = some o) (ae : a ≠ e) (ai : a ≠ it) (hit : s.heap.IsListIter it l i) (hl : s.heap.IsList l items) (hx : items[i]? = some x) (hne : e ≠ it)
    (hQ : ∀ h' f', h'.get? e = some (enOut a it f' ((i : Int) + 1) old) → h'.IsListIter it l (i + 1) → h'.get? s.heap.objs.size = some { cls := .type "tuple", data := .seq #[.int i s.toks, x] } → h'.objs.size = s.heap.objs.size + 1 →
      (∀ b o, b ≠ e → b ≠ it → s.heap.get? b = some o → h'.get? b = some o) → Q (some (.ref s.heap.objs.size)) { s with heap := h', toks := s.toks + 1 }) :
    wpAny (model P w) A (pyNext (.ref e)) Q E s := by
  have ty : s.TypeIs (.ref e) "enumerate" := ⟨_, he, rfl⟩
  obtain ⟨hp, g, d, tk, os⟩ := s
  unfold pyNext
  refine wpAny_bind (wpAny_attempt (wpAny_callSpecial?_slot (name := Str.ofString "__next__") ty F.slot_enumerate_next (wpAny_call_entry F.slot_enumerate_next ty F.entry_enumerate_next ?_ (F.args_enumerate_next_1 _))))
  show wpAny _ _ (field (.ref e) 2 >>= _) _ _ _
  refine wpAny_bind (wpAny_field he rfl (x := .ref it) rfl ?_)
  refine wpAny_bind (wpAny_nextOf_list_item hit hl hx fun h1 hit1 sb1 => ?_)
  have sb1 : Heap.SameBut it hp h1 := sb1
  have e1 : h1.get? e = some (enOut a it f (i : Int) old) := (sb1.2 e hne).trans he
  show wpAny _ _ (field (.ref e) 3 >>= _) _ _ ⟨h1, g, d, tk, os⟩
  refine wpAny_bind (wpAny_field e1 rfl (x := rawInt i) rfl ?_)
  show wpAny _ _ (field (.ref e) 4 >>= _) _ _ ⟨h1, g, d, tk, os⟩
  refine wpAny_bind (wpAny_field e1 rfl (x := .none) rfl ?_)
  show wpAny _ _ (mkInt i >>= _) _ _ ⟨h1, g, d, tk, os⟩
  refine wpAny_bind (wpAny_mkInt ?_)
  show wpAny _ _ (setField (.ref e) 3 (rawInt ((i : Int) + 1)) >>= _) _ _ ⟨h1, g, d, tk + 1, os⟩
  refine wpAny_bind (wpAny_setField_rec e1 (by simp) fun h2 e2 sb2 => ?_)
  have sb2 : Heap.SameBut e h1 h2 := sb2
  have e2 : h2.get? e = some (enOut a it f ((i : Int) + 1) old) := e2
  show wpAny _ _ (setField (.ref e) 4 .none >>= _) _ _ ⟨h2, g, d, tk + 1, os⟩
  refine wpAny_bind (wpAny_setField_rec e2 (by simp) fun h3 e3 sb3 => ?_)
  have sb3 : Heap.SameBut e h2 h3 := sb3
  have e3 : h3.get? e = some (enOut a it f ((i : Int) + 1) old) := e3
  show wpAny _ _ (newTuple [.int i tk, x] >>= _) _ _ ⟨h3, g, d, tk + 1, os⟩
  refine wpAny_bind (wpAny_newTuple ?_)
  have sz : h3.objs.size = hp.objs.size := by rw [sb3.1, sb2.1, sb1.1]
  have k3 : ∀ b o, b ≠ e → b ≠ it → hp.get? b = some o → h3.get? b = some o := fun b o n1 n2 q => sb3.extBut b o n1 (sb2.extBut b o n1 (sb1.extBut b o n2 q))
  have it3 : h3.IsListIter it l (i + 1) := (hit1.extBut sb2.extBut (Ne.symm hne)).extBut sb3.extBut (Ne.symm hne)
  have el : e < hp.objs.size := Heap.lt_size he
  have e4 : (h3.push { cls := .type "tuple", data := .seq #[.int i tk, x] }).get? e = some (enOut a it f ((i : Int) + 1) old) := Heap.get?_push_of_some _ e3
  have t4 : (h3.push { cls := .type "tuple", data := .seq #[.int i tk, x] }).get? hp.objs.size = some { cls := .type "tuple", data := .seq #[.int i tk, x] } := by
    rw [← sz]
    exact Heap.get?_push_size _ rfl
  have a4 : (h3.push { cls := .type "tuple", data := .seq #[.int i tk, x] }).get? a = some o := Heap.get?_push_of_some _ (k3 a o ae ai ha)
  have z4 : (h3.push { cls := .type "tuple", data := .seq #[.int i tk, x] }).objs.size = hp.objs.size + 1 := by rw [Heap.size_push, sz]
  have it4 : (h3.push { cls := .type "tuple", data := .seq #[.int i tk, x] }).IsListIter it l (i + 1) := by
    obtain ⟨o, ho, r⟩ := it3
    exact ⟨o, Heap.get?_push_of_some _ ho, r⟩
  have k4 : ∀ b o, b ≠ e → b ≠ it → hp.get? b = some o → (h3.push { cls := .type "tuple", data := .seq #[.int i tk, x] }).get? b = some o := fun b o n1 n2 q => Heap.get?_push_of_some _ (k3 b o n1 n2 q)
  show wpAny _ _ (Builtin.SmallTypes.ownedTupleIsFree (.ref e) >>= _) _ _ ⟨h3.push { cls := .type "tuple", data := .seq #[.int i tk, x] }, g, d, tk + 1, os⟩
  rw [sz]
  generalize h3.push { cls := .type "tuple", data := .seq #[.int i tk, x] } = h4 at e4 t4 a4 z4 it4 k4 ⊢
  clear it3 k3 e3 sb3 e2 sb2 e1 sb1 hit1 sz
  refine wpAny_bind ?_
  unfold Builtin.SmallTypes.ownedTupleIsFree
  refine wpAny_bind (wpAny_field e4 rfl (x := rawInt a) rfl ?_)
  show wpAny _ _ (loadIfAlive ((a : Int).toNat) >>= _) _ _ _
  rw [Int.toNat_natCast]
  refine wpAny_bind (PySem.W.kdx_alive a4 ?_)
  simp only [Option.isNone_some, Bool.false_eq_true, if_false]
  refine wpAny_bind (wpAny_field e4 rfl (x := .bool f) rfl ?_)
  cases f with
  | true =>
    rw [if_neg (show ¬ ((Value.bool true != Value.bool true) = true) from Bool.false_ne_true)]
    refine wpAny_pure ?_
    simp only [Bool.false_eq_true, if_false]
    exact wpAny_pure (⟨_, rfl, wpAny_pure (hQ h4 true e4 it4 t4 z4 k4)⟩)
  | false =>
    rw [if_pos (show (Value.bool false != Value.bool true) = true from rfl)]
    refine wpAny_bind (wpAny_setField_rec e4 (by simp) fun h5 e5 sb5 => ?_)
    have sb5 : Heap.SameBut e h4 h5 := sb5
    refine wpAny_pure ?_
    simp only [Bool.false_eq_true, if_false]
    refine wpAny_pure (⟨_, rfl, wpAny_pure (hQ h5 true e5 (it4.extBut sb5.extBut (Ne.symm hne)) ?_ ?_ fun b o n1 n2 q => sb5.extBut b o n1 (k4 b o n1 n2 q))⟩)
    · exact sb5.extBut _ _ (Nat.ne_of_gt el) t4
    · rw [sb5.1, z4]
theorem en_item (he : EnS s.heap e it S i) (hS : S < s.heap.objs.size) (hit : s.heap.IsListIter it l i) (hl : s.heap.IsList l items) (hx : items[i]? = some x) (hne : e ≠ it)
    (hQ : ∀ h', EnS h' e it S (i + 1) → h'.IsListIter it l (i + 1) → h'.get? s.heap.objs.size = some { cls := .type "tuple", data := .seq #[.int i s.toks, x] } → h'.objs.size = s.heap.objs.size + 1 →
      (∀ b o, b ≠ e → b ≠ it → s.heap.get? b = some o → h'.get? b = some o) → Q (some (.ref s.heap.objs.size)) { s with heap := h', toks := s.toks + 1 }) :
    wpAny (model P w) A (pyNext (.ref e)) Q E s := by
  have up : ((i + 1 : Nat) : Int) = (i : Int) + 1 := by omega
  have il : it < s.heap.objs.size := by
    obtain ⟨o, q, _⟩ := hit
    exact Heap.lt_size q
  rcases he with ⟨old, q⟩ | ⟨a, f, old, o, q, qa, h1, h2, h3⟩
  · refine wpAny_pyNext_enum_item q hit hl hx hne fun h' o' it' t' z' k' => hQ h' (.inr ⟨s.heap.objs.size, false, x, _, ?_, t', Nat.ne_of_gt (Heap.lt_size q), Nat.ne_of_gt il, Nat.ne_of_gt hS⟩) it' t' z' k'
    rw [up]
    exact o'
  · refine en_out q qa h1 h2 hit hl hx hne fun h' f' o' it' t' z' k' => hQ h' (.inr ⟨a, f', old, o, ?_, k' a o h1 h2 qa, h1, h2, h3⟩) it' t' z' k'
    rw [up]
    exact o'
theorem en_end (hh : A.handled = none) (he : EnS s.heap e it S i) (hit : s.heap.IsListIter it l i) (hl : s.heap.IsList l items) (hx : items[i]? = none) (hQ : ∀ h', Heap.ExtBut it s.heap h' → Q none { s with heap := h' }) :
    wpAny (model P w) A (pyNext (.ref e)) Q E s := by
  rcases he with ⟨old, q⟩ | ⟨a, f, old, o, q, _⟩
  · exact wpAny_pyNext_enum_end hh q hit hl hx hQ
  · have ty : s.TypeIs (.ref e) "enumerate" := ⟨_, q, rfl⟩
    unfold pyNext
    refine wpAny_bind (wpAny_attempt (wpAny_callSpecial?_slot (name := Str.ofString "__next__") ty F.slot_enumerate_next (wpAny_call_entry F.slot_enumerate_next ty F.entry_enumerate_next ?_ (F.args_enumerate_next_1 _))))
    show wpAny _ _ (field (.ref e) 2 >>= _) _ _ _
    refine wpAny_bind (wpAny_field q rfl (x := .ref it) rfl ?_)
    refine wpAny_bind (wpAny_nextOf_list_end hh hit hl hx fun h' y he' hy => ?_)
    obtain ⟨oy, ho, hc⟩ := hy
    refine wpAny_bind (wpAny_isInstance (T := "StopIteration") (b := true) ⟨oy, ho, hc⟩ isSubtype_stop ?_)
    exact wpAny_pure (hQ _ he')
end
end EvX

namespace EvX
open PySem PySem.Spec PySem.Calls PyProof.Rows L2
theorem enum_no_len : typeLookup (.type "enumerate") "__len__" = pure none := by
  rw [typeLookup_type, builtinLookup_eq_fast]
  kernel_rfl
theorem enum_no_hint : typeLookup (.type "enumerate") "__length_hint__" = pure none := by
  rw [typeLookup_type, builtinLookup_eq_fast]
  kernel_rfl
/-- the pairs that were given out -/
structure Pairs (items : List Value) (lo : Addr) (h : Heap) (as : List Addr) : Prop where
  rise : as.Pairwise (· < ·)
  above : ∀ a ∈ as, lo < a
  pairs : ∀ (j : Nat) (a : Addr), as[j]? = some a → ∃ (t : Tok) (x : Value), items[j]? = some x ∧ h.get? a = some { cls := .type "tuple", data := .seq #[.int j t, x] }
theorem Pairs.past {items : List Value} {lo : Addr} {h : Heap} {as : List Addr} (g : Pairs items lo h as) {a : Addr} (ha : a ∈ as) : a < h.objs.size := by
  obtain ⟨j, hj⟩ := List.mem_iff_getElem?.mp ha
  obtain ⟨_, _, _, q⟩ := g.pairs j a hj
  exact Heap.lt_size q
section
variable {P : Program} {w : World} {A : Around} {s : Shared} {R : Result → Shared → Prop} {e it l S : Addr} {items : List Value} {res : Value}
theorem en_loop (hh : A.handled = none) (eS : e < S) (iS : it < S) (lS : l ≠ S) (ne : e ≠ it) (le : l ≠ e) (li : l ≠ it) (hn : items.length ≤ sizeLine) {h0 : Heap}
    (hR : ∀ h' tk acc c as, (∀ b o, b ≠ S → b ≠ e → b ≠ it → h0.get? b = some o → h'.get? b = some o) → h'.get? S = some { cls := .type "list", dict := none, data := .seq acc c, slots := #[] } → as.length = items.length → Pairs items S h' as →
      acc.toList = as.map Value.ref → R (.ok (.ret res)) { s with heap := h', toks := tk }) :
    ∀ (k i : Nat) (h : Heap) (tk c : Nat) (acc : Array Value) (as : List Addr), items.length - i = k → i ≤ items.length → EnS h e it S i → h.IsListIter it l i → h.IsList l items.toArray → (∀ b o, b ≠ S → b ≠ e → b ≠ it → h0.get? b = some o → h.get? b = some o) →
      h.get? S = some { cls := .type "list", dict := none, data := .seq acc c, slots := #[] } → acc.toList = as.map Value.ref → as.length = i → Pairs items S h as →
      codeAny (model P w) A (.builtin "list.extend.loop" ⟨[.ref S, .ref e, res], []⟩) R { s with heap := h, toks := tk } := by
  have nS : S ≠ e := Nat.ne_of_gt eS
  have nI : S ≠ it := Nat.ne_of_gt iS
  intro k
  induction k with
  | zero =>
    intro i h tk c acc as hk hi st sit sl keep hS hacc many G
    have full : i = items.length := by omega
    refine codeAny_builtin F.entry_extend_loop ?_
    rw [Around.under_plainId F.plain_extend_loop _]
    show wpAny _ A.in1 (pyNext (.ref e) >>= _) _ _ _
    refine wpAny_bind (en_end (s := { s with heap := h, toks := tk }) (A := A.in1) hh st sit sl (by simp; omega) fun h' he => ?_)
    refine wpAny_pure (hR h' tk acc c as (fun b o h1 h2 h3 q => he b o h3 (keep b o h1 h2 h3 q)) (he S _ nI hS) (by omega) ⟨G.rise, G.above, fun j a hj => ?_⟩ hacc)
    obtain ⟨t, x, q1, q2⟩ := G.pairs j a hj
    have up := G.above a (List.mem_of_getElem? hj)
    exact ⟨t, x, q1, he a _ (Nat.ne_of_gt (Nat.lt_trans iS up)) q2⟩
  | succ k ih =>
    intro i h tk c acc as hk hi st sit sl keep hS hacc many G
    have low : i < items.length := by omega
    obtain ⟨x, hx⟩ : ∃ x, items[i]? = some x := ⟨items[i], List.getElem?_eq_getElem low⟩
    have sz : acc.size = i := by rw [← Array.length_toList, hacc, List.length_map, many]
    have Sl : S < h.objs.size := Heap.lt_size hS
    refine codeAny_builtin F.entry_extend_loop ?_
    rw [Around.under_plainId F.plain_extend_loop _]
    show wpAny _ A.in1 (pyNext (.ref e) >>= _) _ _ _
    refine wpAny_bind (en_item (s := { s with heap := h, toks := tk }) (S := S) st Sl sit sl (x := x) (by simpa using hx) ne fun h' st' sit' ht hz kp => ?_)
    dsimp only at ht hz kp ⊢
    have hS' := kp S _ nS nI hS
    have sl' : h'.IsList l items.toArray := sl.at fun o q => kp l o le li q
    have up : ∀ b o, b ≠ S → h'.get? b = some o → (h'.update S (Obj.mapSeq (·.push (Value.ref h.objs.size)))).get? b = some o := fun b o hb q => (Heap.get?_update_other _ _ (Ne.symm hb)).trans q
    show wpAny _ A.in1 (updateSeq S (·.push (Value.ref h.objs.size)) >>= _) _ _ _
    refine wpAny_bind ?_
    refine wpAny_updateSeq hS' rfl (wpAny_pure ⟨plainId_quiet F.plain_extend_loop _, ?_⟩) (by rw [sz]; omega) (by show (acc.push (Value.ref h.objs.size)).size ≤ sizeLine + 1; rw [Array.size_push, sz]; omega)
    refine ih (i + 1) _ (tk + 1) _ (acc.push (Value.ref h.objs.size)) (as ++ [h.objs.size]) (by omega) low (st'.keep up (Ne.symm nS)) (sit'.at fun o q => up it o (Ne.symm nI) q) (sl'.at fun o q => up l o lS q)
      (fun b o h1 h2 h3 q => up b o h1 (kp b o h2 h3 (keep b o h1 h2 h3 q))) (Heap.get?_update_self _ hS' rfl) (by rw [Array.toList_push, hacc, List.map_append]; rfl) (by rw [List.length_append, many]; rfl) ⟨?_, ?_, ?_⟩
    · refine List.pairwise_append.mpr ⟨G.rise, List.pairwise_singleton _ _, fun a ha b hb => ?_⟩
      rw [List.mem_singleton.mp hb]
      exact G.past ha
    · intro a ha
      rcases List.mem_append.mp ha with ha | ha
      · exact G.above a ha
      · rw [List.mem_singleton.mp ha]
        exact Sl
    · intro j b hj
      by_cases h1 : j < as.length
      · rw [List.getElem?_append_left h1] at hj
        obtain ⟨t, y, q1, q2⟩ := G.pairs j b hj
        have ab := G.above b (List.mem_of_getElem? hj)
        exact ⟨t, y, q1, up b _ (Nat.ne_of_gt ab) (kp b _ (Nat.ne_of_gt (Nat.lt_trans eS ab)) (Nat.ne_of_gt (Nat.lt_trans iS ab)) q2)⟩
      · by_cases h2 : j = as.length
        · subst h2
          have hb : h.objs.size = b := by simpa using hj
          subst hb
          refine ⟨tk, x, by rw [many]; exact hx, ?_⟩
          rw [many]
          exact up _ _ (Nat.ne_of_gt Sl) ht
        · have gone : (as ++ [h.objs.size])[j]? = none := List.getElem?_eq_none (by rw [List.length_append, List.length_singleton]; omega)
          rw [gone] at hj
          cases hj
end
section
variable {P : Program} {w : World} {A : Around} {s : Shared} {R : Result → Shared → Prop} {e it l S : Addr} {items : List Value} {res : Value}
theorem en_extend (hh : A.handled = none) (eS : e < S) (iS : it < S) (lS : l ≠ S) (ne : e ≠ it) (le : l ≠ e) (li : l ≠ it) (hn : items.length ≤ sizeLine) (he : IsEnum s.heap e it 0 .none) (hit : s.heap.IsListIter it l 0) (hl : s.heap.IsList l items.toArray) (c0 : Nat) (hS : s.heap.get? S = some { cls := .type "list", data := .seq #[] c0 })
    (hR : ∀ h' tk acc c as, (∀ b o, b ≠ S → b ≠ e → b ≠ it → s.heap.get? b = some o → h'.get? b = some o) → h'.get? S = some { cls := .type "list", dict := none, data := .seq acc c, slots := #[] } → as.length = items.length → Pairs items S h' as →
      acc.toList = as.map Value.ref → R (.ok (.ret res)) { s with heap := h', toks := tk }) :
    wpAny (model P w) A.in1 (Builtin.List.listExtendWith (.ref S) (.ref e) res)
      (fun fin s' => match fin with | .done f => R (.ok f) s' | .again c' => c'.quiet = true ∧ codeAny (model P w) A c' R s') (fun e s' => R (.error e) s') s := by
  have ty : s.TypeIs (.ref e) "enumerate" := ⟨_, he, rfl⟩
  have nS : S ≠ e := Nat.ne_of_gt eS
  unfold Builtin.List.listExtendWith
  refine wpAny_bind (wpAny_typeOf ty ?_)
  have q1 : Builtin.List.listSameRef (.ref S) (.ref e) = false := by simp [Builtin.List.listSameRef, nS]
  have q2 : (Value.type "enumerate" == Value.type "list") = false := by decide
  have q3 : (Value.type "enumerate" == Value.type "tuple") = false := by decide
  simp only [q1, q2, q3, Bool.or_false, Bool.false_eq_true, if_false]
  refine wpAny_bind (wpAny_pyIter_enum he ?_)
  refine wpAny_bind (wpAny_holding ?_)
  unfold Builtin.List.listLengthHint
  refine wpAny_bind (wpAny_specialOf ty enum_no_len ?_)
  show wpAny _ A.in1 (specialOf (Value.ref e) (Str.ofString "__length_hint__") >>= _) _ _ _
  refine wpAny_bind (wpAny_specialOf ty enum_no_hint ?_)
  apply wpAny_pure
  show wpAny _ A.in1 (rule "list.extend.makes-room" >>= fun _ => Builtin.List.listTouch (.ref S) >>= fun _ => again (.builtin "list.extend.loop" ⟨[.ref S, .ref e, res], []⟩)) _ _ _
  refine wpAny_bind (wpAny_rule ?_)
  refine wpAny_bind ?_
  show wpAny _ A.in1 (updateSeq S (·.push .none) >>= fun _ => updateSeq S (·.pop)) _ _ _
  refine wpAny_bind (wpAny_updateSeq hS rfl ?_)
  have s2 := Heap.get?_update_self (Obj.mapSeq (·.push Value.none)) hS rfl
  refine wpAny_updateSeq (hz := by seq_fits) s2 rfl ?_
  have s3 := Heap.get?_update_self (Obj.mapSeq (·.pop)) s2 rfl
  have oth : ∀ b o, b ≠ S → s.heap.get? b = some o → ((s.heap.update S (Obj.mapSeq (·.push Value.none))).update S (Obj.mapSeq (·.pop))).get? b = some o := by
    intro b o hb q
    exact (Heap.get?_update_other _ _ (Ne.symm hb)).trans ((Heap.get?_update_other _ _ (Ne.symm hb)).trans q)
  refine wpAny_pure ⟨plainId_quiet F.plain_extend_loop _, ?_⟩
  exact en_loop (h0 := s.heap) hh eS iS lS ne le li hn hR items.length 0 _ s.toks _ #[] [] (Nat.sub_zero _) (Nat.zero_le _) (.inl ⟨.none, oth e _ (Ne.symm nS) he⟩) (hit.at fun o q => oth it o (Nat.ne_of_lt iS) q) (hl.at fun o q => oth l o lS q) (fun b o h1 _ _ q => oth b o h1 q) s3 rfl rfl
    ⟨List.Pairwise.nil, (fun _ ha => nomatch ha), fun j a hj => by simp at hj⟩
end
section
variable {P : Program} {w : World} {A : Around} {E : Value → Shared → Prop} {s : Shared} {e it l : Addr} {items : List Value} {Q : Value → Shared → Prop}
theorem en_list (hh : A.handled = none) (ne : e ≠ it) (le : l ≠ e) (li : l ≠ it) (hn : items.length ≤ sizeLine) (he : IsEnum s.heap e it 0 .none) (hit : s.heap.IsListIter it l 0) (hl : s.heap.IsList l items.toArray)
    (hQ : ∀ h' tk acc c as, (∀ b o, b ≠ e → b ≠ it → s.heap.get? b = some o → h'.get? b = some o) → h'.get? s.heap.objs.size = some { cls := .type "list", dict := none, data := .seq acc c, slots := #[] } → as.length = items.length → Pairs items s.heap.objs.size h' as →
      acc.toList = as.map Value.ref → Q (.ref s.heap.objs.size) { s with heap := h', toks := tk }) :
    wpAny (model P w) A (call (.type "list") [.ref e]) Q E s := by
  have el : e < s.heap.objs.size := Heap.lt_size he
  have il : it < s.heap.objs.size := by
    obtain ⟨o, q, _⟩ := hit
    exact Heap.lt_size q
  have ll : l < s.heap.objs.size := by
    obtain ⟨o, q, _⟩ := hl
    exact Heap.lt_size q
  refine callType_codes (Q₁ := fun obj s₁ => obj = .ref s.heap.objs.size ∧ s₁ = { s with heap := s.heap.push { cls := .type "list", data := .seq #[] } }) F.called_list (F.typeCall_list_1 _) F.entry_list_init (code_list_new _ ⟨rfl, rfl⟩) fun obj s₁ h₁ => ?_
  obtain ⟨rfl, rfl⟩ := h₁
  have hS : (s.heap.push { cls := .type "list", data := .seq #[] }).get? s.heap.objs.size = some { cls := .type "list", data := .seq #[] } := Heap.get?_push_size _ rfl
  refine ⟨⟨_, hS, rfl⟩, F.args_list_init_2 _ _, ?_⟩
  show wpAny _ _ (do let old ← Builtin.List.listItems (.ref s.heap.objs.size); Builtin.List.listUpdate (.ref s.heap.objs.size) (fun _ => #[]); letGo old.toList.reverse; Builtin.List.listExtendWith (.ref s.heap.objs.size) (.ref e) .none) _ _ _
  refine wpAny_bind ?_
  unfold Builtin.List.listItems
  refine wpAny_bind (wpAny_seqItems hS rfl (wpAny_pure ?_))
  show wpAny _ _ (updateSeq s.heap.objs.size (fun _ => #[]) >>= fun _ => letGo (#[] : Array Value).toList.reverse >>= fun _ => Builtin.List.listExtendWith (.ref s.heap.objs.size) (.ref e) .none) _ _ _
  refine wpAny_bind (wpAny_updateSeq hS rfl ?_)
  have s2 := Heap.get?_update_self (Obj.mapSeq (fun _ => (#[] : Array Value))) hS rfl
  have oth : ∀ b o, b ≠ s.heap.objs.size → s.heap.get? b = some o → ((s.heap.push { cls := .type "list", data := .seq #[] }).update s.heap.objs.size (Obj.mapSeq (fun _ => (#[] : Array Value)))).get? b = some o := by
    intro b o hb q
    exact (Heap.get?_update_other _ _ (Ne.symm hb)).trans (Heap.get?_push_of_some _ q)
  refine wpAny_bind (wpAny_letGo ?_)
  refine en_extend (A := A.in1) hh el il (Nat.ne_of_lt ll) ne le li hn (oth e _ (Nat.ne_of_lt el) he) (hit.at fun o q => oth it o (Nat.ne_of_lt il) q) (hl.at fun o q => oth l o (Nat.ne_of_lt ll) q) _ s2 ?_
  intro h' tk acc c as hk hS' hl' hG hacc
  exact ⟨rfl, hQ h' tk acc c as (fun b o h1 h2 q => hk b o (Nat.ne_of_lt (Heap.lt_size q)) h1 h2 (oth b o (Nat.ne_of_lt (Heap.lt_size q)) q)) hS' hl' hG hacc⟩
end
end EvX

namespace EvX
open PySem PySem.Spec PySem.Calls PyProof.Rows L2
/-- the list at S of the pairs at as -/
def layP (H : Hp) (S : Addr) (as : List Addr) (xs : List V) : Hp := fun b => if b = S then some (.lst (as.map V.ref)) else if b ∈ as then some (.tup [.int (as.idxOf b : Nat), xs.getD (as.idxOf b) .non]) else H b
section
variable {X : Cx} {pins : List (Addr × Obj)} {σ : L2.St} {H : Hp} {s : Shared} {h' : Heap} {S : Addr} {as : List Addr} {xs : List V} {items : List Value} {acc : Array Value} {c tk : Nat}
theorem vals_at {xs : List V} {us : List Value} (r : Vals xs us) : ∀ (j : Nat) (u : Value), us[j]? = some u → RelV (xs.getD j .non) u := by
  induction r with
  | nil =>
    intro j u h
    cases h
  | @cons x y xs us rx _ ih =>
    intro j u h
    cases j with
    | zero =>
      have e : y = u := by simpa using h
      subst e
      exact rx
    | succ j => exact ih j u (by simpa using h)
theorem pairs_laid (I : Inv X pins σ H s) (rv : Vals xs items) (hz : items.length ≤ sizeLine) (low : s.heap.objs.size ≤ S) (hk : ∀ b o, s.heap.get? b = some o → h'.get? b = some o) (hS : h'.get? S = some { cls := .type "list", dict := none, data := .seq acc c, slots := #[] })
    (hl : as.length = items.length) (G : Pairs items S h' as) (hacc : acc.toList = as.map Value.ref) :
    Ext H (layP H S as xs) ∧ (∀ (j : Nat) (t : Addr), as[j]? = some t → layP H S as xs t = some (.tup [.int (j : Nat), xs.getD j .non])) ∧ Inv X pins σ (layP H S as xs) { s with heap := h', toks := tk } := by
  have outS : S ∉ as := fun z => Nat.lt_irrefl _ (G.above _ z)
  have nd : as.Nodup := List.Pairwise.imp (fun {a b} (h : a < b) => Nat.ne_of_lt h) G.rise
  have newS : H S = none := I.hok.fresh low
  have newT : ∀ t ∈ as, H t = none := fun t ht => I.hok.fresh (Nat.le_trans low (Nat.le_of_lt (G.above t ht)))
  have atS : layP H S as xs S = some (.lst (as.map V.ref)) := if_pos rfl
  have atT : ∀ t ∈ as, layP H S as xs t = some (.tup [.int (as.idxOf t : Nat), xs.getD (as.idxOf t) .non]) := by
    intro t ht
    unfold layP
    have ne : t ≠ S := fun z => outS (by rw [← z]; exact ht)
    rw [if_neg ne, if_pos ht]
  have off : ∀ b, b ≠ S → b ∉ as → layP H S as xs b = H b := by
    intro b h1 h2
    unfold layP
    rw [if_neg h1, if_neg h2]
  have kp : Ext H (layP H S as xs) := by
    intro b u q
    rw [off b (ne_of_none q newS) fun z => by rw [newT b z] at q; cases q]
    exact q
  have past : ∀ b o, s.heap.get? b = some o → b ≠ S ∧ b ∉ as := by
    intro b o q
    have lt := Heap.lt_size q
    refine ⟨Nat.ne_of_lt (Nat.lt_of_lt_of_le lt low), fun z => ?_⟩
    exact absurd (Nat.lt_trans (Nat.lt_of_lt_of_le lt low) (G.above b z)) (Nat.lt_irrefl _)
  refine ⟨kp, fun j t hj => ?_, ?_⟩
  · have ht : t ∈ as := List.mem_of_getElem? hj
    have jl : j < as.length := by
      rcases Nat.lt_or_ge j as.length with z | z
      · exact z
      · rw [List.getElem?_eq_none z] at hj
        cases hj
    have e : as.idxOf t = j := by
      have il : as.idxOf t < as.length := List.idxOf_lt_length_of_mem ht
      refine (List.getElem?_inj il nd).mp ?_
      rw [List.getElem?_eq_getElem il, List.getElem_idxOf il, hj]
    rw [atT t ht, e]
  · refine I.call' (ch := []) rfl ⟨fun b o q _ _ _ => hk b o q, fun b o q _ _ _ => ⟨o.slots, hk b o q⟩, fun b o q n _ => ?_, fun b o q _ => ⟨o, hk b o q⟩, fun b xs q => kp b _ q, fun b o u q => kp b _ q, fun b ps q => ⟨#[], by rw [kp b _ q]; simp⟩⟩ (fun b u q => ?_) I.bare fun b z => by simp at z
    · obtain ⟨z1, z2⟩ := past b o q
      rw [off b z1 z2]
      exact n
    · by_cases hb : b ∈ as
      · rw [atT b hb] at q
        cases q
        have il : as.idxOf b < as.length := List.idxOf_lt_length_of_mem hb
        have hj : as[as.idxOf b]? = some b := by rw [List.getElem?_eq_getElem il, List.getElem_idxOf il]
        obtain ⟨t, x, f1, f2⟩ := G.pairs _ b hj
        refine ⟨by show 2 ≤ sizeLine; decide, [.int (as.idxOf b : Nat) t, x], .cons ⟨t, rfl⟩ (.cons (vals_at rv _ _ f1) .nil), ?_⟩
        exact ⟨_, f2, rfl, _, rfl⟩
      · by_cases hb2 : b = S
        · subst hb2
          rw [atS] at q
          cases q
          refine ⟨by rw [List.length_map, hl]; exact hz, acc.toList, c, ?_, ?_⟩
          · rw [hacc]
            exact LiI.vals_refs as
          · rw [Array.toArray_toList]
            exact hS
        · rw [off b hb2 hb] at q
          exact (I.hok b u q).stay (fun d v _ y => hk d v y) (fun d y => kp d _ y) fun d ys y => kp d _ y
end
def tLsEnum (K : PySem.W.Frag) (ta : TA) : TE := fun σ H Q => ta σ H fun vs H1 => ∃ l xs, vs = [.ref l] ∧ SqL K H1 l xs ∧
  ∀ (p : Addr) (ts : List Addr) (H' : Hp), Ext H1 H' → H' p = some (.lst (ts.map V.ref)) → ts.length = xs.length → (∀ (j : Nat) (t : Addr), ts[j]? = some t → H' t = some (.tup [.int (j : Nat), xs.getD j .non])) → Q (.ref p) H'
section
variable {X : Cx} {e : Expr} {ta : TA} {p p2 pos pos2 : Pos}
theorem pe_lsEnum (hc : X.calm = true) (ha : PA X [e] ta) (hg : Gl X "list") (hm : X.mg "list" = none) (hv : bootBuiltins "list" = some (.type "list")) (hg2 : Gl X "enumerate") (hm2 : X.mg "enumerate" = none)
    (hs : starEach [.Call (.Name "enumerate" p2) [e] [] pos2] X.env = (false, eval (.Call (.Name "enumerate" p2) [e] [] pos2) X.env) :: starEach [] X.env := by rfl) (hs2 : starEach [e] X.env = [(false, eval e X.env)] := by rfl) :
    PE X (.Call (.Name "list" p) [.Call (.Name "enumerate" p2) [e] [] pos2] [] pos) (tLsEnum X.K ta) := by
  constructor
  intro pins s σ H Q I h
  refine wpAny_Call_Name_kw (ld_blt I hg hm hv ?_)
  refine PyProof.Rows.callWith_type1 ?_ hs rfl
  rw [hs]
  show wpAny _ _ (spliced ((false, eval (.Call (.Name "enumerate" p2) [e] [] pos2) X.env) :: backTo pos (starEach [] X.env))) _ _ s
  refine Calls.spliced_cons ?_
  refine wpAny_Call_Name_kw (ld_blt I hg2 hm2 boot_enumerate (PyProof.Rows.callWith_type1 (thn (ha.run pos2 pins s σ H _ I h) ?_) hs2 rfl))
  rintro us s1 ⟨vs, H1, I1, r1, l, xs, rfl, hq, q⟩
  cases r1 with
  | cons r rr =>
    cases rr
    cases r
    obtain ⟨its, rv, p', hz⟩ := I1.list hq
    have ll : l < s1.heap.objs.size := by
      obtain ⟨o, z, _⟩ := p'.isList
      exact Heap.lt_size z
    refine call_enumerate_list p'.isList fun h1 he hit hsz hk => ?_
    refine Calls.spliced_nil ?_
    have li : h1.IsList l its.toArray := p'.isList.at fun o z => hk l o z
    have lk : its.length ≤ sizeLine := by
      rw [← rv.length]
      exact hz
    refine en_list (s := { s1 with heap := h1 }) (I1.ok.hd hc) (Nat.succ_ne_self _) (Nat.ne_of_lt (Nat.lt_succ_of_lt ll)) (Nat.ne_of_lt ll) lk he hit li ?_
    intro h2 tk acc c as hk2 hS hl hG hacc
    have sz2 : h1.objs.size = s1.heap.objs.size + 2 := hsz
    obtain ⟨k1, k2, J⟩ := pairs_laid (xs := xs) (tk := tk) I1 rv lk (S := h1.objs.size) (by omega) (fun b o z => hk2 b o (Nat.ne_of_lt (Nat.lt_succ_of_lt (Heap.lt_size z))) (Nat.ne_of_lt (Heap.lt_size z)) (hk b o z)) hS hl hG hacc
    exact ⟨.ref h1.objs.size, _, J, rfl, q h1.objs.size as _ k1 (if_pos rfl) (by rw [hl]; exact rv.length.symm) k2⟩
end
end EvX

/-! repr of data with dicts -/
namespace EvX
open PySem PySem.Spec PySem.Calls PyProof.Rows L2
section
variable {X : Cx}
def tLstX (t : TA) : TE := fun σ H Q => t σ H fun xs H1 => xs.length ≤ sizeLine ∧ ∀ p, H1 p = none → p ≠ sysModules → Q (.ref p) (upd H1 p (.lst xs))
theorem pe_lstX {es : List Expr} {t : TA} {pos : Pos} (h : PA X es t) : PE X (.List es pos) (tLstX t) := by
  constructor
  intro pins s σ H Q I hq
  refine wpAny_List_spliced (thn (h.run pos pins s σ H _ I hq) ?_)
  rintro us s1 ⟨xs, H1, I1, r, z, q⟩
  refine ⟨by rw [← r.length]; exact z, ?_⟩
  have J := I1.laid (t' := s1.toks) (a := s1.heap.objs.size) (o := .lst xs) (fun b u e => Heap.get?_push_of_some { cls := .type "list", data := .seq us.toArray } e) (Nat.le_refl _) ⟨z, us, 0, r, Heap.get?_push_size _ rfl⟩
  exact ⟨.ref s1.heap.objs.size, _, J, rfl, q _ (I1.hok.fresh (Nat.le_refl _)) (Nat.ne_of_gt I1.big)⟩
/-- a list of one thing, times none or one -/
def rRepX : R2 := fun x y H Q => ∃ l k v, x = .ref l ∧ y = .int k ∧ H l = some (.lst [v]) ∧ 0 ≤ k ∧ k ≤ 1 ∧ ∀ p, H p = none → p ≠ sysModules → Q (.ref p) (upd H p (.lst (List.replicate k.toNat v)))
theorem op_repX : OpR X (binaryOp .Mult) rRepX := by
  intro pins s σ H x y v u Q I rx ry h
  obtain ⟨l, k, c, rfl, rfl, hH, k0, k1, q⟩ := h
  cases rx
  obtain ⟨t, rfl⟩ := ry
  obtain ⟨z, its, n, r, hl, e⟩ := I.lstM hH
  obtain ⟨i, rfl, ri⟩ : ∃ i, its = [i] ∧ RelV c i := by
    cases r with
    | cons r1 r2 =>
      cases r2
      exact ⟨_, rfl, r1⟩
  have low : k.toNat ≤ 1 := by omega
  have f1 : ¬ [i].toArray.size * k.toNat > (2 ^ 63 - 1) / 8 := by
    show ¬ 1 * k.toNat > (2 ^ 63 - 1) / 8
    omega
  have f2 : ¬ (!Builtin.List.listFitsIndex k) = true := by
    rw [fitsIndex_both (by omega) (by omega)]
    decide
  have f3 : ¬ Builtin.List.listTooLong ([i].toArray.size * k.toNat) = true := by
    rw [notLongL (show [i].toArray.size * k.toNat ≤ sizeLine from Nat.le_trans (show 1 * k.toNat ≤ 1 by omega) (by decide))]
    decide
  have made : List.foldl (fun x1 x2 => x1 ++ x2) #[] (List.replicate (if [i].toArray.isEmpty = true then 0 else k.toNat) [i].toArray) = (List.replicate k.toNat i).toArray := by
    rcases (show k.toNat = 0 ∨ k.toNat = 1 by omega) with z | z <;> rw [z] <;> rfl
  have rr : Vals (List.replicate k.toNat c) (List.replicate k.toNat i) := by
    rcases (show k.toNat = 0 ∨ k.toNat = 1 by omega) with z | z <;> rw [z]
    · exact .nil
    · exact .cons ri .nil
  refine wpAny_binaryOp_repeat_ref (T := "list") (U := "int") (by decide) ⟨_, e, rfl⟩ (fun s' => typeIs_int s' k t) noFill_list_mul F.fills_int_mul F.slot_int_rmul repeat_list F.slot_int_index.lookup ?_
  refine call_meets F.slot_int_rmul (typeIs_int s k t) F.entry_int_rmul (F.args_int_rmul_2 _ _) (int___rmul___int_list k t l [i].toArray n) ⟨e, rfl, ⟨_, e, rfl⟩, ?_⟩
  refine call_meets F.slot_list_mul ⟨_, e, rfl⟩ F.entry_list_mul (F.args_list_mul_2 _ _) (AutoListH.list___mul___list_int_3 l [i].toArray n k t f2 f1 f3) ⟨e, ?_⟩
  rw [made]
  exact ⟨.ref _, _, I.lnew (t' := s.toks) rr (by rw [List.length_replicate]; exact Nat.le_trans low (by decide)), rfl, q _ I.fresh (Nat.ne_of_gt I.big)⟩
end
/-- the data that a value tells, dicts among them -/
def kD : Key → PyData
  | .inl i => .int i
  | .inr x => .str x
mutual
inductive Dx (H : Hp) : V → PyData → Prop
  | non : Dx H .non .none
  | bl (b : Bool) : Dx H (.bl b) (.bool b)
  | int (i : Int) : Dx H (.int i) (.int i)
  | str (x : Str) : Dx H (.str x) (.str x)
  | lst {a : Addr} {xs : List V} {ds : List PyData} : H a = some (.lst xs) → a ≠ sysModules → DxAll H xs ds → Dx H (.ref a) (.list ds)
  | tup {a : Addr} {xs : List V} {ds : List PyData} : H a = some (.tup xs) → DxAll H xs ds → Dx H (.ref a) (.tuple ds)
  | dct {a : Addr} {kvs : List (Key × V)} {ds : List (PyData × PyData)} : H a = some (.dK kvs) → ds.map (·.1) = kvs.map (fun p => kD p.1) → DxAll H (kvs.map (·.2)) (ds.map (·.2)) → Dx H (.ref a) (.dict ds)
inductive DxAll (H : Hp) : List V → List PyData → Prop
  | nil : DxAll H [] []
  | cons {v : V} {vs : List V} {d : PyData} {ds : List PyData} : Dx H v d → DxAll H vs ds → DxAll H (v :: vs) (d :: ds)
end
mutual
theorem Dx.ext {H H' : Hp} (e : Ext H H') : ∀ {v : V} {d : PyData}, Dx H v d → Dx H' v d
  | _, _, .non => .non
  | _, _, .bl b => .bl b
  | _, _, .int i => .int i
  | _, _, .str x => .str x
  | _, _, .lst h n a => .lst (e _ _ h) n (DxAll.ext e a)
  | _, _, .tup h a => .tup (e _ _ h) (DxAll.ext e a)
  | _, _, .dct h k a => .dct (e _ _ h) k (DxAll.ext e a)
theorem DxAll.ext {H H' : Hp} (e : Ext H H') : ∀ {vs : List V} {ds : List PyData}, DxAll H vs ds → DxAll H' vs ds
  | _, _, .nil => .nil
  | _, _, .cons h a => .cons (Dx.ext e h) (DxAll.ext e a)
end
theorem readsKeys {P : Program} {w : World} {h : Heap} {es : List DictEntry} {vs : List (Key × Value)} (p : PySem.Pairs (mixKind P w) es vs) : ReadsAll h (es.map (·.key)) (vs.map fun q => kD q.1) [] ∧ es.map (·.val) = vs.map (·.2) := by
  induction p with
  | nil => exact ⟨.nil, rfl⟩
  | @cons e kv es kvs hk hv _ ih =>
    obtain ⟨h1, h2⟩ := ih
    refine ⟨?_, by rw [List.map_cons, List.map_cons, h2, hv]⟩
    have one : Reads h e.key (kD kv.1) [] := by
      rcases keyIs_shape (show keyIs kv.1 e.key = true from hk) with ⟨i, t, z1, z2⟩ | ⟨x, t, z1, z2⟩
      · rw [z1, z2]
        exact .int i t
      · rw [z1, z2]
        exact .str x t
    exact ReadsAll.cons one h1
section
variable {X : Cx} {pins : List (Addr × Obj)} {σ : L2.St} {H : Hp} {s : Shared}
theorem kv_vals : ∀ {kvs : List (Key × V)} {vs : List (Key × Value)}, KV kvs vs → Vals (kvs.map (·.2)) (vs.map (·.2)) ∧ (kvs.map fun p => kD p.1) = vs.map fun q => kD q.1
  | [], [], .nil => ⟨.nil, rfl⟩
  | p :: kvs, q :: vs, .cons h t => by
    obtain ⟨h1, h2⟩ := kv_vals t
    exact ⟨.cons h.2 h1, by rw [List.map_cons, List.map_cons, h2, h.1]⟩
mutual
theorem Dx.reads (I : Inv X pins σ H s) : ∀ (d : PyData) (v : V) (u : Value), Dx H v d → RelV v u → ∃ as, Reads s.heap u d as ∧ sysModules ∉ as
  | .none, _, _, h, r => by
    cases h
    cases r
    exact ⟨[], Reads.none, by simp⟩
  | .bool b, _, _, h, r => by
    cases h
    cases r
    exact ⟨[], Reads.bool b, by simp⟩
  | .int i, _, _, h, r => by
    cases h
    obtain ⟨t, rfl⟩ := r
    exact ⟨[], Reads.int i t, by simp⟩
  | .str x, _, _, h, r => by
    cases h
    obtain ⟨t, rfl⟩ := r
    exact ⟨[], Reads.str x t, by simp⟩
  | .list ds, _, _, h, r => by
    cases h with
    | lst hs n ha =>
      cases r
      obtain ⟨z, its, m, rv, _, e⟩ := I.lstM hs
      obtain ⟨as, hr, o⟩ := Dx.readsAll I ds _ its ha rv
      exact ⟨_, Reads.list e rfl rfl hr, by simp [o, Ne.symm n]⟩
  | .tuple ds, _, _, h, r => by
    cases h with
    | tup hs ha =>
      cases r
      obtain ⟨z, its, rv, ⟨o, ho, hc, m, hd⟩⟩ := (show ObjOk X.prog X.w H s.heap _ (.tup _) from I.hok _ _ hs)
      obtain ⟨as, hr, q⟩ := Dx.readsAll I ds _ its ha rv
      exact ⟨_, Reads.tuple ho hc hd hr, q⟩
  | .dict ds, _, _, h, r => by
    cases h with
    | dct hs hk ha =>
      cases r
      obtain ⟨z, hsys, vs, kv, ⟨o, es, ep, ho, hx, hd, _, hp, _⟩⟩ := (show ObjOk X.prog X.w H s.heap _ (.dK _) from I.hok _ _ hs)
      obtain ⟨v1, v2⟩ := kv_vals kv
      obtain ⟨k1, k2⟩ := readsKeys (h := s.heap) hp
      obtain ⟨as, hr, q⟩ := Dx.readsAllP I ds _ _ ha v1
      have ks : ReadsAll s.heap (es.toList.map (·.key)) (ds.map (·.1)) [] := by
        rw [hk, v2]
        exact k1
      have vals : ReadsAll s.heap (es.toList.map (·.val)) (ds.map (·.2)) as := by
        rw [k2]
        exact hr
      refine ⟨_, Reads.dict ho hx.1 hd ks vals, ?_⟩
      have ne := beq_eq_false_iff_ne.mp hsys
      simp [q, Ne.symm ne]
theorem Dx.readsAll (I : Inv X pins σ H s) : ∀ (ds : List PyData) (vs : List V) (us : List Value), DxAll H vs ds → Vals vs us → ∃ as, ReadsAll s.heap us ds as ∧ sysModules ∉ as
  | [], _, _, h, r => by
    cases h
    cases r
    exact ⟨_, ReadsAll.nil, by simp⟩
  | d :: ds, _, _, h, r => by
    cases h with
    | cons h1 h2 =>
      cases r with
      | cons r1 r2 =>
        obtain ⟨as, q1, o1⟩ := Dx.reads I d _ _ h1 r1
        obtain ⟨bs, q2, o2⟩ := Dx.readsAll I ds _ _ h2 r2
        exact ⟨_, ReadsAll.cons q1 q2, by simp [o1, o2]⟩
theorem Dx.readsAllP (I : Inv X pins σ H s) : ∀ (ds : List (PyData × PyData)) (vs : List V) (us : List Value), DxAll H vs (ds.map (·.2)) → Vals vs us → ∃ as, ReadsAll s.heap us (ds.map (·.2)) as ∧ sysModules ∉ as
  | [], _, _, h, r => by
    cases h
    cases r
    exact ⟨_, ReadsAll.nil, by simp⟩
  | d :: ds, _, _, h, r => by
    cases h with
    | cons h1 h2 =>
      cases r with
      | cons r1 r2 =>
        obtain ⟨as, q1, o1⟩ := Dx.reads I d.2 _ _ h1 r1
        obtain ⟨bs, q2, o2⟩ := Dx.readsAllP I ds _ _ h2 r2
        exact ⟨_, ReadsAll.cons q1 q2, by simp [o1, o2]⟩
end
def rReprX : List V → Hp → VK → Prop := fun xs H Q => ∃ (a : Addr) (d : PyData), xs = [.ref a] ∧ Dx H (.ref a) d ∧ d.showable = true ∧ d.depth ≤ 40 ∧ d.shown.length ≤ sizeLine ∧ Q (.str d.shown) H
theorem call_reprX (g : X.A.guards = some []) (hu : X.A.units + 64 < cLine) : CallR X (.builtin "repr") rReprX := by
  intro pins s σ H xs us Q I r h
  obtain ⟨a, d, rfl, hd, sh, dep, sz, q⟩ := h
  cases r with
  | cons r1 r2 =>
    cases r2
    obtain ⟨as, rd, out⟩ := Dx.reads I d _ _ hd r1
    cases r1
    exact repr_of_reads' rd sh (fun _ => out) g (by omega) (fun _ _ e => e) (fun h' u tk k => ⟨.str d.shown, H, I.kept k, ⟨_, rfl⟩, q⟩) sz
end
end EvX

/-! The errors of this program: their classes by numbers. -/
namespace EvX
open PySem PySem.Spec PySem.Calls PyProof.Rows L2 EvG
def nm (i : Nat) : Str := (["InvalidVector", "InvalidBook", "InvalidPart", "InvalidNet", "InvalidCourse", "InvalidWeighting", "InvalidDeed", "InvalidItem", "InvalidCosts", "InvalidCount", "NotComparable", "InvalidText", "UnknownCommand", "UnknownName", "NoItem", "TooMany", "NothingToUndo", "NetError", "MissingError"] : List Str).getD i ""
/-- the fields, in the order of the parameters -/
def fld (i : Nat) : List Str := ([[], ["reason"], ["reason"], ["reason", "name"], ["reason"], ["reason"], ["reason"], ["index"], ["name"], ["name"], ["reason"], ["line", "word"], ["word"], ["name"], ["number"], ["limit"], ["count"], [], []] : List (List Str)).getD i []
def FF (ns : List Str) (ys : List V) : List (Str × V) := (ns.zip ys).reverse
def tVE : List Value := [.type "ValueError", .type "Exception", .type "BaseException", .type "object"]
def tLE : List Value := [.type "LookupError", .type "Exception", .type "BaseException", .type "object"]
def tOE : List Value := [.type "OverflowError", .type "ArithmeticError", .type "Exception", .type "BaseException", .type "object"]
def tIE : List Value := [.type "IndexError", .type "LookupError", .type "Exception", .type "BaseException", .type "object"]
/-- what a class stands over -/
def over (c : Nat → Addr) (i : Nat) : List Value := if i < 13 then .ref (c 17) :: tVE else if i < 15 then .ref (c 18) :: tLE else if i = 15 then tOE else if i = 16 then tIE else if i = 17 then tVE else tLE
def gK {α : Type} (n : Nat) (us ws : List α) : List α := if us.length = 1 ∧ ws.length = n then us ++ ws.reverse else []
structure Lay (P : Program) (w : World) (K : PySem.W.Frag) (mg : Str → Option Value) (base : Heap) (c : Nat → Addr) : Prop where
  inj : ∀ i j, i < 19 → j < 19 → c i = c j → i = j
  glob : ∀ i, i < 19 → mg (nm i) = some (.ref (c i))
  ask : ∀ i, i < 19 → AskC K (c i)
  cls : ∀ i, i < 19 → ∃ cd, PySem.W.clsIn K (c i) = some cd ∧ cd.mro = .ref (c i) :: over c i
  ty : ∀ i, i < 19 → PySem.W.typeIn K (.ref (c i)) = some (.type "type")
  no : ∀ i, i < 19 → ∀ f ∈ fld i, PySem.W.findIn K (.ref (c i)) f = some none
  bare : ∀ i, i = 0 ∨ i = 17 ∨ i = 18 → ∃ B newId initId bmB, ExcBaseFacts B newId initId bmB ∧ PySem.W.excIn K (c i) bmB newId = true
  init : ∀ i, 1 ≤ i → i ≤ 16 → ∃ (fI : Addr) (fd : FuncData) (B newId initId : String) (bmB : List Value), ErrC K (c i) B newId initId bmB ∧ PySem.W.findIn K (.ref (c i)) "__init__" = some (some (.ref fI)) ∧ PySem.W.typeIn K (.ref fI) = some (.type "function") ∧
    FnOk P w K mg base CX0 1 fI fd ("self" :: fld i) (spI (c i) (fld i).length (FF (fld i))) ∧ KBinds K fd ("self" :: fld i) [] (fun us _ => us) (fun vs _ => vs) ∧ KBinds K fd ("self" :: fld i) (fld i).reverse (gK (fld i).length) (gK (fld i).length)
/-- a new error of the class at C with these fields -/
def tNewE (C : Addr) (ns : List Str) (rev : Bool) (ta : TA) : TE := fun σ H Q => ta σ H fun vs H1 => vs.length = ns.length ∧ ∀ a H2, H1 a = none → Ext H1 H2 → IsE C (FF ns (if rev then vs.reverse else vs)) a H2 → Q (.ref a) H2
theorem fld_len (i : Nat) : (fld i).length ≤ 2 := by
  by_cases h : i < 19
  · have : ∀ j < 19, (fld j).length ≤ 2 := by decide
    exact this i h
  · have e : fld i = [] := by
      unfold fld
      rw [List.getD_eq_getElem?_getD, List.getElem?_eq_none (by show 19 ≤ i; omega)]
      rfl
    rw [e]
    decide
section
variable {X : Cx} {c : Nat → Addr} {x : Str} {p pos : Pos} {e : Expr} {es : List Expr} {kws : List Keyword} {ta tk : TA} {ks : List Str}
theorem laid_new {C : Addr} {n : Nat} {F : List V → List (Str × V)} {H2 : Hp} {Q : VK} {us ys : List V} {a : Addr} (e : us = .ref a :: ys) (hl : ys.length = n)
    (q : ∀ a H3, H2 a = none → Ext H2 H3 → IsE C (F ys) a H3 → Q (.ref a) H3) (ha : H2 a = none) : spI C n F us (upd H2 a (exo a C none)) (fun v H3 => v = .non ∧ Q (.ref a) H3) (fun _ _ _ => False) := by
  refine ⟨a, ys, e, hl, upd_same, fun H' L => ?_⟩
  obtain ⟨h1, h2⟩ := L.isE ha
  exact ⟨rfl, q a H' ha h2 h1⟩
theorem pe_new (L : Lay X.prog X.w X.K X.mg X.base c) (i : Nat) (h1 : 1 ≤ i) (h2 : i ≤ 16) (hx : x = nm i) (hr : Room 2 X.A) (hg : Gl X x) (ha : PA X (e :: es) ta)
    (hdb : (x == ("__debug__" : Str)) = false := by decide) (he : starEach (e :: es) X.env = (false, eval e X.env) :: starEach es X.env := by rfl) (hpl : (backTo pos (starEach es X.env)).any (·.1) = false := by rfl) :
    PE X (.Call (.Name x p) (e :: es) [] pos) (tNewE (c i) (fld i) false ta) := by
  obtain ⟨fI, fd, B, newId, initId, bmB, T, iC, tI, F, kb, _⟩ := L.init i h1 h2
  have hm : X.mg x = some (.ref (c i)) := by
    rw [hx]
    exact L.glob i (by omega)
  constructor
  intro pins s σ H Q I h
  apply wpAny_Call_Name_kw
  refine ld_glob I hg hm ?_ hdb
  refine PySem.W.callWith_K (h₀ := X.base) I.ok.mod.kin T.ask.keep (thn (ha.run pos pins s σ H _ I h) ?_) he hpl
  rintro us s1 ⟨vs, H1, I1, r, hl, q⟩
  have fl := fld_len i
  exact ⟨I1.kIn, run_err (ws := []) (zs := []) T iC tI F hr kb pass0 I1 r .nil (by omega) fun a ha => laid_new rfl hl q ha⟩
theorem pe_newK (L : Lay X.prog X.w X.K X.mg X.base c) (i : Nat) (h1 : 1 ≤ i) (h2 : i ≤ 16) (hx : x = nm i) (hr : Room 2 X.A) (hg : Gl X x) (hkw : PK X kws tk)
    (hall : (backToKw pos (keywordEach kws X.env)).all (·.1.isSome) = true := by rfl) (hks : (backToKw pos (keywordEach kws X.env)).filterMap (·.1) = (fld i).reverse := by rfl)
    (hdb : (x == ("__debug__" : Str)) = false := by decide) (hpl : ((backTo pos (starEach [] X.env)).any (·.1) || (backToKw pos (keywordEach kws X.env)).any (·.1.isNone)) = false := by rfl) :
    PE X (.Call (.Name x p) [] kws pos) (tNewE (c i) (fld i) true tk) := by
  obtain ⟨fI, fd, B, newId, initId, bmB, T, iC, tI, F, _, kb⟩ := L.init i h1 h2
  have hm : X.mg x = some (.ref (c i)) := by
    rw [hx]
    exact L.glob i (by omega)
  constructor
  intro pins s σ H Q I h
  apply wpAny_Call_Name_kw
  refine ld_glob I hg hm ?_ hdb
  refine PySem.W.callWith_KW0 (h₀ := X.base) I.ok.mod.kin T.ask.keep hall ?_ hpl
  refine thn (hkw.run pos pins s σ H _ I h) ?_
  rintro ws s2 ⟨zs, H2, I2, rz, hl, q⟩
  refine ⟨I2.kIn, ?_⟩
  rw [hks]
  refine run_err (us := []) (vs := []) T iC tI F hr kb pass0 I2 .nil rz (Nat.zero_le _) fun a ha => laid_new (ys := zs.reverse) ?_ ?_ q ha
  · unfold gK
    rw [if_pos ⟨rfl, hl⟩]
    rfl
  · rw [List.length_reverse]
    exact hl
theorem pe_newB (L : Lay X.prog X.w X.K X.mg X.base c) (i : Nat) (hi : i = 0 ∨ i = 17 ∨ i = 18) (hx : x = nm i) (hg : Gl X x)
    (hall : (backToKw pos (keywordEach [] X.env)).all (·.1.isSome) = true := by rfl) (hks : (backToKw pos (keywordEach [] X.env)).filterMap (·.1) = [] := by rfl)
    (hdb : (x == ("__debug__" : Str)) = false := by decide) (hpl : ((backTo pos (starEach [] X.env)).any (·.1) || (backToKw pos (keywordEach [] X.env)).any (·.1.isNone)) = false := by rfl) :
    PE X (.Call (.Name x p) [] [] pos) (tNewE (c i) (fld i) false tNil) := by
  obtain ⟨B, newId, initId, bmB, F, q0⟩ := L.bare i hi
  have lt : i < 19 := by omega
  have hm : X.mg x = some (.ref (c i)) := by
    rw [hx]
    exact L.glob i lt
  constructor
  intro pins s σ H Q I h
  refine (pe_mk0 (X := X) F q0 (L.ask i lt).keep hg hm hall hks hdb hpl).run pins s σ H Q I ?_
  intro a ha
  have em : fld i = [] := by rcases hi with rfl | rfl | rfl <;> rfl
  rw [em] at h
  obtain ⟨_, q⟩ := (show ([] : List V).length = ([] : List Str).length ∧ _ from h)
  exact q a _ ha (ext_new ha) ⟨none, upd_same, rfl⟩
/-- which class an error is of -/
theorem kit_own {P : Program} {w : World} {K : PySem.W.Frag} {mg : Str → Option Value} {base : Heap} (L : Lay P w K mg base c) {i j : Nat} (hi : i < 19) (hj : j < 17) : PySem.W.kitOne K (.ref (c i)) (.ref (c j)) = some (decide (i = j)) := by
  obtain ⟨cd, h1, h2⟩ := L.cls i hi
  obtain ⟨cj, h3, _⟩ := L.cls j (by omega)
  unfold PySem.W.kitOne
  by_cases e : i = j
  · subst e
    rw [if_pos (by simp), decide_eq_true rfl]
  · have ne : c i ≠ c j := fun z => e (L.inj i j hi (by omega) z)
    have n1 : c 17 ≠ c j := fun z => by
      have := L.inj 17 j (by omega) (by omega) z
      omega
    have n2 : c 18 ≠ c j := fun z => by
      have := L.inj 18 j (by omega) (by omega) z
      omega
    rw [if_neg (by simp [ne]), decide_eq_false e]
    have ov : (over c i).contains (.ref (c j)) = false := by
      unfold over
      repeat' split
      all_goals simp [tVE, tLE, tOE, tIE, Ne.symm n1, Ne.symm n2]
    show (if ((PySem.W.clsIn K (c j)).isSome && PySem.W.typeIn K (.ref (c j)) == some (.type "type")) = true then PySem.W.subIn K (.ref (c i)) (.ref (c j)) else none) = _
    rw [h3, L.ty j (by omega), if_pos (by simp)]
    show (PySem.W.clsIn K (c i)).bind _ = _
    rw [h1, Option.bind_some, h2]
    show some ((Value.ref (c i) :: over c i).contains (.ref (c j))) = _
    rw [List.contains_cons, ov]
    simp [Ne.symm ne]
/-- the base classes of this program -/
theorem kit_base {P : Program} {w : World} {K : PySem.W.Frag} {mg : Str → Option Value} {base : Heap} (L : Lay P w K mg base c) {i j : Nat} (hi : i < 17) (hj : j = 17 ∨ j = 18) : PySem.W.kitOne K (.ref (c i)) (.ref (c j)) = some ((over c i).contains (.ref (c j))) := by
  obtain ⟨cd, h1, h2⟩ := L.cls i (by omega)
  have lj : j < 19 := by omega
  obtain ⟨cj, h3, _⟩ := L.cls j lj
  have ne : c i ≠ c j := fun z => by
    have := L.inj i j (by omega) lj z
    omega
  unfold PySem.W.kitOne
  rw [if_neg (by simp [ne])]
  show (if ((PySem.W.clsIn K (c j)).isSome && PySem.W.typeIn K (.ref (c j)) == some (.type "type")) = true then PySem.W.subIn K (.ref (c i)) (.ref (c j)) else none) = _
  rw [h3, L.ty j lj, if_pos (by simp)]
  show (PySem.W.clsIn K (c i)).bind _ = _
  rw [h1, Option.bind_some, h2]
  show some ((Value.ref (c i) :: over c i).contains (.ref (c j))) = _
  rw [List.contains_cons]
  simp [Ne.symm ne]
theorem kit_type {P : Program} {w : World} {K : PySem.W.Frag} {mg : Str → Option Value} {base : Heap} (L : Lay P w K mg base c) {i : Nat} {T : String} (hi : i < 19) (hT : PySem.W.kitMeta T = true) : PySem.W.kitOne K (.ref (c i)) (.type T) = some ((over c i).contains (.type T)) := by
  obtain ⟨cd, h1, h2⟩ := L.cls i hi
  unfold PySem.W.kitOne
  rw [if_neg (by simp)]
  show (if PySem.W.kitMeta T = true then PySem.W.subIn K (.ref (c i)) (.type T) else none) = _
  rw [if_pos hT]
  show (PySem.W.clsIn K (c i)).bind _ = _
  rw [h1, Option.bind_some, h2]
  show some ((Value.ref (c i) :: over c i).contains (.type T)) = _
  rw [List.contains_cons]
  rfl
end
end EvX

/-! steps -/
namespace EvX
open PySem PySem.Spec PySem.Calls PyProof.Rows L2 EvG
section
variable {σ : L2.St} {H : Hp} {Q : VK} {K : PySem.W.Frag} {te to : TE} {ta : TA} {C : Addr} {ns : List Str} {rev : Bool} {D : Ends} {c : Nat → Addr}
theorem g_newE (h : ta σ H fun vs H1 => vs.length = ns.length ∧ ∀ a H2, H1 a = none → Same H1 H2 → IsE C (FF ns (if rev then vs.reverse else vs)) a H2 → Q (.ref a) H2) : tNewE C ns rev ta σ H Q := h
theorem g_lstX (h : ta σ H fun xs H1 => xs.length ≤ sizeLine ∧ ∀ p, H1 p = none → p ≠ sysModules → Q (.ref p) (upd H1 p (.lst xs))) : tLstX ta σ H Q := h
theorem g_fld {f : Str} (h : te σ H fun x H1 => ∃ (a C : Addr) (fs : List (Str × V)) (v : V), x = .ref a ∧ AskC K C ∧ PySem.W.findIn K (.ref C) f = some none ∧ IsE C fs a H1 ∧ fs.lookup f = some v ∧ Q v H1) : tFld K f te σ H Q := h
theorem g_put {f : Str} (h : te σ H fun y H1 => to σ H1 fun x H2 => ∃ a C : Addr, x = .ref a ∧ (∃ B n i bm, ErrC K C B n i bm) ∧ PySem.W.takerIn K C f = some none ∧
  ((H2 a = some (exo a C none) ∧ ∀ H', LaidE H2 a C [(f, y)] H' → D.nx σ H') ∨ ∃ (H0 : Hp) (fs : List (Str × V)), LaidE H0 a C fs H2 ∧ fs.length ≤ 900 ∧ ∀ H', LaidE H0 a C ((f, y) :: fs) H' → D.nx σ H')) : tPut K f to te D σ H := h
theorem g_ls (h : ta σ H fun vs H1 => ∃ l xs, vs = [.ref l] ∧ SqL K H1 l xs ∧ ∀ (p : Addr) (ts : List Addr) (H' : Hp), Same H1 H' → H' p = some (.lst (ts.map V.ref)) → ts.length = xs.length → (∀ (j : Nat) (t : Addr), ts[j]? = some t → H' t = some (.tup [.int (j : Nat), xs.getD j .non])) → Q (.ref p) H') : tLsEnum K ta σ H Q := h
theorem g_askE {P : Program} {w : World} {mg : Str → Option Value} {base : Heap} {a : Addr} {fs : List (Str × V)} {i j : Nat} (L : Lay P w K mg base c) (hi : i < 19) (hj : j < 17) (x : IsE (c i) fs a H) (q : Q (.bl (decide (i = j))) H) : rAskE K [.ref a, .ref (c j)] H Q :=
  ⟨a, c i, fs, .ref (c j), .ref (c j), _, rfl, fun u r => r, L.ask i hi, x, kit_own L hi hj, q⟩
theorem over17 {P : Program} {w : World} {mg : Str → Option Value} {base : Heap} (L : Lay P w K mg base c) {i : Nat} (hi : i < 17) : (over c i).contains (.ref (c 17)) = decide (i < 13) := by
  have n : c 18 ≠ c 17 := fun z => by
    have := L.inj 18 17 (by omega) (by omega) z
    omega
  by_cases h : i < 13
  · rw [decide_eq_true h]
    unfold over
    rw [if_pos h]
    simp
  · rw [decide_eq_false h]
    unfold over
    rw [if_neg h]
    repeat' split
    all_goals simp [tVE, tLE, tOE, tIE, Ne.symm n, n]
theorem over18 {P : Program} {w : World} {mg : Str → Option Value} {base : Heap} (L : Lay P w K mg base c) {i : Nat} (hi : i < 17) : (over c i).contains (.ref (c 18)) = decide (i = 13 ∨ i = 14) := by
  have n : c 17 ≠ c 18 := fun z => by
    have := L.inj 17 18 (by omega) (by omega) z
    omega
  by_cases h : i = 13 ∨ i = 14
  · rw [decide_eq_true h]
    unfold over
    rw [if_neg (by omega), if_pos (by omega)]
    simp
  · rw [decide_eq_false h]
    unfold over
    repeat' split
    all_goals first
      | (exfalso; omega)
      | simp [tVE, tLE, tOE, tIE, Ne.symm n, n]
theorem g_askN {P : Program} {w : World} {mg : Str → Option Value} {base : Heap} {a : Addr} {fs : List (Str × V)} {i : Nat} (L : Lay P w K mg base c) (hi : i < 17) (x : IsE (c i) fs a H) (q : Q (.bl (decide (i < 13))) H) : rAskE K [.ref a, .ref (c 17)] H Q :=
  ⟨a, c i, fs, .ref (c 17), .ref (c 17), _, rfl, fun u r => r, L.ask i (by omega), x, by rw [← over17 L hi]; exact kit_base L hi (.inl rfl), q⟩
theorem g_askM {P : Program} {w : World} {mg : Str → Option Value} {base : Heap} {a : Addr} {fs : List (Str × V)} {i : Nat} (L : Lay P w K mg base c) (hi : i < 17) (x : IsE (c i) fs a H) (q : Q (.bl (decide (i = 13 ∨ i = 14))) H) : rAskE K [.ref a, .ref (c 18)] H Q :=
  ⟨a, c i, fs, .ref (c 18), .ref (c 18), _, rfl, fun u r => r, L.ask i (by omega), x, by rw [← over18 L hi]; exact kit_base L hi (.inr rfl), q⟩
theorem g_askT {P : Program} {w : World} {mg : Str → Option Value} {base : Heap} {a : Addr} {fs : List (Str × V)} {i : Nat} {T : String} (L : Lay P w K mg base c) (hi : i < 19) (hT : PySem.W.kitMeta T = true) (x : IsE (c i) fs a H) (q : Q (.bl ((over c i).contains (.type T))) H) : rAskE K [.ref a, .ty T] H Q :=
  ⟨a, c i, fs, .ty T, .type T, _, rfl, fun u r => r, L.ask i hi, x, kit_type L hi hT, q⟩
theorem g_inT {x : V} {p : Addr} {xs : List V} (h : H p = some (.tup xs)) (fx : flatV x = true) (fs : xs.all flatV = true) (q : Q (.bl (inV x xs)) H) : rIn K false x (.ref p) H Q := ⟨p, xs, rfl, .inr (SqT.of h), fx, fs, q⟩
theorem g_repX {l : Addr} {k : Int} {v : V} (h : H l = some (.lst [v])) (k0 : 0 ≤ k) (k1 : k ≤ 1) (q : ∀ p, H p = none → p ≠ sysModules → Q (.ref p) (upd H p (.lst (List.replicate k.toNat v)))) : rRepX (.ref l) (.int k) H Q := ⟨l, k, v, rfl, rfl, h, k0, k1, q⟩
theorem g_reprX {a : Addr} {d : PyData} (hd : Dx H (.ref a) d) (sh : d.showable = true) (dep : d.depth ≤ 40) (sz : d.shown.length ≤ sizeLine) (q : Q (.str d.shown) H) : rReprX [.ref a] H Q := ⟨a, d, rfl, hd, sh, dep, sz, q⟩
end
theorem g_catW {H : Hp} {Q : VK} {l b : Addr} {xs zs ws : List V} (h : H l = some (.lst xs)) (h2 : H b = some (.lst zs)) (e : xs ++ zs = ws) (z : ws.length ≤ sizeLine) (q : ∀ p, H p = none → Q (.ref p) (upd H p (.lst ws))) : rCat (.ref l) (.ref b) H Q :=
  ⟨l, b, xs, zs, rfl, rfl, h, h2, by rw [← List.length_append, e]; exact z, by rw [e]; exact q⟩
theorem g_nameR {i : Nat} {v : V} {σ σ' : L2.St} {H : Hp} {QS : L2.St → Hp → Prop} (h : σ.set i (some v) = σ') (q : QS σ' H) : gName i v σ H QS := by
  subst h
  exact q
theorem same_trans {H H1 H2 : Hp} (a : Same H H1) (b : Same H1 H2) : Same H H2 := fun x o h => b x o (a x o h)
theorem same_upd {H H' : Hp} {p : Addr} {o : HO} (s : Same H H') (n : H' p = none) : Same H (upd H' p o) := fun b u e => ext_new n b u (s b u e)
end EvX

/-! calls with ** of a dict whose keys are texts: what the model does, by what the dict holds -/
namespace KwX
open PySem PySem.Spec PySem.Calls PyProof.Rows
section
variable {prog : Program} {w : World} {K : Type} [DecidableEq K] {knd : KeyKind prog w K} {A : Around} {E : Value → Shared → Prop} {s : Shared}

theorem find_none {d : Addr} {kvs : List (K × Value)} {k : K} {key : Value} {Q : Option Nat → Shared → Prop} (hkey : knd.is k key = true) (hm : s.heap.DictOf knd d kvs) (hn : k ∉ kvs.map (·.1)) (hQ : Q none s) :
    wpAny (model prog w) A (dictFind d key (knd.hash k)) Q E s := by
  obtain ⟨o, es, ep, ho, hc, hd, hk, hp, hnd⟩ := hm
  refine wpAny_dictFind_of hkey ho hd hk ?_
  have hidx : (es.findIdx? fun e => knd.is k e.key) = kvs.findIdx? fun kv => decide (kv.1 = k) := by
    rw [← hp.findIdx k]; obtain ⟨l⟩ := es; simp
  have h0 : (kvs.findIdx? fun kv => decide (kv.1 = k)) = none := by
    rw [List.findIdx?_eq_none_iff]
    intro x hx
    exact decide_eq_false fun e => hn (List.mem_map.mpr ⟨x, hx, e⟩)
  rw [hidx, h0]; exact hQ

theorem put_new {d : Addr} {kvs : List (K × Value)} {k : K} {key v : Value} {Q : Unit → Shared → Prop} (hkey : knd.is k key = true) (hm : s.heap.DictOf knd d kvs) (hn : k ∉ kvs.map (·.1))
    (hQ : ∀ h', h'.DictOf knd d (kvs ++ [(k, v)]) → Heap.SameBut d s.heap h' → Q () { s with heap := h' }) (hsz : kvs.length ≤ sizeLine) :
    wpAny (model prog w) A (dictPut d (knd.hash k) key v) Q E s := by
  unfold dictPut
  refine wpAny_bind (find_none hkey hm hn ?_)
  obtain ⟨o, es, ep, ho, hc, hd, hk, hp, hnd⟩ := hm
  have hes : es.size ≤ sizeLine := by
    have e1 := hp.length
    have e2 : es.toList.length = es.size := by simp
    omega
  refine wpAny_updateDictKeys (hz := hes) ho hd (hQ _ ⟨_, _, ep + 1, Heap.get?_update_self _ ho (Obj.isFreed_of_dict (Obj.data_mapDictKeys hd _)), hc.mapDictKeys _, Obj.data_mapDictKeys hd _, hk.push hkey _, ?_, ?_⟩ (Heap.SameBut.update ..))
  · have := hp.append hkey (knd.hash k) v
    obtain ⟨l⟩ := es
    simpa using this
  · rw [List.map_append, List.nodup_append]
    refine ⟨hnd, by simp, ?_⟩
    intro a ha b hb
    simp only [List.map_cons, List.map_nil, List.mem_singleton] at hb
    subst hb
    exact fun e => hn (e ▸ ha)

theorem not_ref_of {v : Value} (h : carriedByValue v = true) : ∀ a, v ≠ .ref a := by
  intro a e
  subst e
  revert h
  unfold carriedByValue
  exact fun z => nomatch z

theorem merge_new {d o : Addr} {more : List (K × Value)} {Q : Unit → Shared → Prop} (hdo : d ≠ o) (hoS : (o == sysModules) = false)
    (hd : s.heap.DictOf knd d ([] : List (K × Value))) (ho : s.heap.DictOf knd o more)
    (hQ : ∀ h', h'.DictOf knd d more → Heap.SameBut d s.heap h' → Q () { s with heap := h' }) (hsz : more.length ≤ sizeLine) :
    wpAny (model prog w) A (mergeMapping d (.ref o) true) Q E s := by
  obtain ⟨od, esd, epd, hod, hcd, hdd, hkd, hpd, hnd⟩ := id hd
  obtain ⟨oo, eso, epo, hoo, hco, hdo', hko, hpo, hno⟩ := id ho
  have hlen : more.length = eso.size := by rw [← hpo.length]; simp
  unfold mergeMapping
  refine wpAny_bind (wpAny_isInstance ho.typeIs isSubtype_dict_dict ?_)
  rw [if_pos rfl]
  refine wpAny_bind (wpAny_specialOf ho.typeIs F.slot_dict_iter.lookup (wpAny_bind (wpAny_pure ?_)))
  dsimp only
  rw [beq_self_eq_true]
  dsimp only
  rw [if_neg (by rw [hoS]; exact Bool.false_ne_true)]
  refine wpAny_bind (wpAny_dictEntries hod hdd ?_)
  have h0 : esd = #[] := by
    have e1 := hpd.length
    have e2 : esd.toList = [] := List.length_eq_zero_iff.mp (by simpa using e1)
    simpa using e2
  rw [if_pos (by rw [h0]; rfl)]
  refine wpAny_bind (wpAny_dictEntries hoo hdo' ?_)
  have hloop : (forIn eso PUnit.unit fun e (_ : PUnit) => (match e.key with
      | .ref _ => (do
        let q ← specialOf e.key "__eq__"
        if (q != some (.builtin "object.__eq__")) = true then
          if (eso.filter (·.hash == e.hash)).size > 1 then (do let _ ← (unsupported "dict.merge-into-an-empty-dict:keys-of-equal-hash" : Sem PUnit); pure (ForInStep.yield PUnit.unit)) else pure (ForInStep.yield PUnit.unit)
        else pure (ForInStep.yield PUnit.unit) : Sem (ForInStep PUnit))
      | _ => pure (ForInStep.yield PUnit.unit) : Sem (ForInStep PUnit))) = pure PUnit.unit := by
    rw [← Array.forIn_toList]
    refine forIn_yield_id _ fun e he c => ?_
    obtain ⟨k, hkey, _⟩ := hko e (Array.mem_toList_iff.mp he)
    have z := not_ref_of (knd.byValue k _ hkey)
    cases q : e.key with
    | ref a => exact absurd q (z a)
    | _ => rfl
  have Z : ∀ {t : PUnit → Sem Unit}, wpAny (model prog w) A (t PUnit.unit) Q E s → wpAny (model prog w) A (forIn eso PUnit.unit (fun e (_ : PUnit) => (match e.key with
      | .ref _ => (do
        let q ← specialOf e.key "__eq__"
        if (q != some (.builtin "object.__eq__")) = true then
          if (eso.filter (·.hash == e.hash)).size > 1 then (do let _ ← (unsupported "dict.merge-into-an-empty-dict:keys-of-equal-hash" : Sem PUnit); pure (ForInStep.yield PUnit.unit)) else pure (ForInStep.yield PUnit.unit)
        else pure (ForInStep.yield PUnit.unit) : Sem (ForInStep PUnit))
      | _ => pure (ForInStep.yield PUnit.unit) : Sem (ForInStep PUnit))) >>= t) Q E s := fun h => by rw [hloop]; exact wpAny_bind (wpAny_pure h)
  refine Z ?_
  refine wpAny_bind (wpAny_dictEntries hoo hdo' ?_)
  refine wpAny_bind (wpAny_dictEpoch hoo hdo' ?_)
  refine wpAny_bind ?_
  refine wpAny_forIn_list _
    (fun rest _ s' => ∃ h' i, s' = { s with heap := h' } ∧ rest = List.range' i (eso.size - i) ∧ i ≤ eso.size ∧ h'.DictOf knd d (more.take i) ∧ h'.get? o = some oo ∧ Heap.SameBut d s.heap h')
    _ ?_ ?_ _ _ ⟨s.heap, 0, rfl, by rw [List.range_eq_range', Nat.sub_zero], Nat.zero_le _, by simpa using hd, hoo, Heap.SameBut.refl _ _⟩
  · rintro x rest b s' ⟨h', i, rfl, hr, hi, hd', hoo', hs'⟩
    have hlt : i < eso.size := by
      rcases Nat.lt_or_ge i eso.size with h | h
      · exact h
      · rw [Nat.sub_eq_zero_of_le h] at hr; simp at hr
    obtain ⟨rfl, hrest⟩ : x = i ∧ rest = List.range' (i + 1) (eso.size - (i + 1)) := by
      have e : eso.size - i = (eso.size - (i + 1)) + 1 := by omega
      rw [e, List.range'_succ] at hr
      injection hr with h1 h2
      exact ⟨h1, h2⟩
    refine wpAny_bind (wpAny_dictEntries hoo' hdo' ?_)
    rw [Array.getElem?_eq_getElem hlt]
    obtain ⟨kv, hkv⟩ : ∃ kv, more[x]? = some kv := ⟨more[x]'(by rw [hlen]; exact hlt), List.getElem?_eq_getElem _⟩
    obtain ⟨k, v⟩ := kv
    obtain ⟨hkey, hval⟩ := hpo.get? (e := eso[x]) (by simp [hlt]) hkv
    obtain ⟨k', hkey', hhash⟩ := hko eso[x] (Array.getElem_mem hlt)
    obtain rfl : k' = k := knd.inj _ _ _ hkey' hkey
    have hfresh : k' ∉ (more.take x).map (·.1) := by
      intro z
      obtain ⟨y, hy, ey⟩ := List.mem_map.mp z
      obtain ⟨j, hj, hjy⟩ := List.mem_take_iff_getElem.mp hy
      have hjx : j < x := by omega
      have n1 : (more.map (·.1))[j]? = some k' := by rw [List.getElem?_map, List.getElem?_eq_getElem (by omega), hjy, Option.map_some, ey]
      have n2 : (more.map (·.1))[x]? = some k' := by rw [List.getElem?_map, hkv, Option.map_some]
      have := (List.getElem?_inj (by rw [List.length_map]; omega) hno).mp (n1.trans n2.symm)
      omega
    have hmx : (more.take x).length ≤ sizeLine := by
      have e2 : (more.take x).length ≤ more.length := by rw [List.length_take]; omega
      omega
    dsimp only
    rw [hhash, hval]
    refine wpAny_bind (wpAny_holding ?_)
    rw [if_pos rfl]
    refine wpAny_bind (find_none hkey hd' hfresh ?_)
    rw [if_neg (by decide)]
    refine put_new hkey hd' hfresh (fun h'' hd'' hs'' => ?_) hmx
    have hoo'' : h''.get? o = some oo := (hs''.2 o (Ne.symm hdo)).trans hoo'
    refine wpAny_bind (wpAny_dictEpoch hoo'' hdo' ?_)
    rw [if_neg (by simp)]
    exact wpAny_pure ⟨h'', x + 1, rfl, hrest, hlt, by rw [List.take_add_one, hkv]; exact hd'', hoo'', hs'.trans hs''⟩
  · rintro b s' ⟨h', i, rfl, hr, hi, hd', hoo', hs'⟩
    have hin : i = eso.size := by
      rcases Nat.lt_or_ge i eso.size with h | h
      · have e : eso.size - i = (eso.size - (i + 1)) + 1 := by omega
        rw [e, List.range'_succ] at hr; exact nomatch hr
      · exact Nat.le_antisymm hi h
    refine wpAny_pure (hQ h' ?_ hs')
    rw [hin, ← hlen, List.take_length] at hd'; exact hd'
end
end KwX

namespace KwX
open PySem PySem.Spec PySem.Calls PyProof.Rows L2
def kwK {α : Type} (l : List (Str × α)) : List (Key × α) := l.map fun p => (Sum.inr p.1, p.2)
abbrev emptyDict : Obj := { cls := .type "dict", data := .dict #[] }
section
variable {prog : Program} {w : World} {A : Around} {E : Value → Shared → Prop} {s : Shared}
theorem key_str {x : Str} {v : Value} (h : (mixKind prog w).is (Sum.inr x) v = true) : ∃ t, v = .str x t := by
  cases v with
  | str y t =>
    have z := (mixKind prog w).inj (.str y t) (Sum.inr x) (Sum.inr y) h (mixKind_str prog w y t)
    injection z with z
    exact ⟨t, by rw [z]⟩
  | _ => first | (revert h; exact fun z => nomatch z) | (exfalso; revert h; unfold mixKind; decide) | skip
theorem pairs_kw : ∀ {es : List DictEntry} {kw : List (Str × Value)}, Pairs (mixKind prog w) es (kwK kw) → ∀ {β : Type} (acc : List (Str × Value)) (g : DictEntry → List (Str × Value) → Sem (ForInStep (List (Str × Value)))),
    (∀ e x t a, e.key = .str x t → g e a = pure (.yield (a ++ [(x, e.val)]))) → forIn es acc g = pure (acc ++ kw)
  | [], kw, h, β, acc, g, hg => by
    cases kw with
    | nil => rw [List.append_nil]; rfl
    | cons p r => exact nomatch h
  | e :: es, kw, h, β, acc, g, hg => by
    cases kw with
    | nil => exact nomatch h
    | cons p r =>
      cases h with
      | cons h1 h2 h3 =>
        obtain ⟨t, ht⟩ := key_str h1
        have ih := pairs_kw h3 (β := β) (acc ++ [(p.1, e.val)]) g hg
        have h2' : e.val = p.2 := h2
        rw [List.forIn_cons, hg e p.1 t acc ht]
        show (forIn es (acc ++ [(p.1, e.val)]) g) = _
        rw [ih, h2', List.append_assoc]
        rfl
theorem kws_in {f : Value} {d : Addr} {kw : List (Str × Value)} {Q : List (Str × Value) → Shared → Prop} (hm : s.heap.DictOf (mixKind prog w) d (kwK kw)) (h : Q kw s) : wpAny (model prog w) A (keywordsIn f d) Q E s := by
  obtain ⟨o, es, ep, ho, hc, hd, hk, hp, hnd⟩ := hm
  unfold keywordsIn
  refine wpAny_bind (wpAny_dictEntries ho hd ?_)
  rw [← Array.forIn_toList]
  refine wpAny_bind (wpAny_of_eq (pairs_kw hp (β := Unit) [] _ fun e x t a q => ?_) ?_)
  · dsimp only
    rw [q]
  · rw [List.nil_append]; exact wpAny_pure h
theorem merged_kw {f : Value} {x : Sem Value} {pos : Pos} {Q : Addr → Shared → Prop}
    (h : wpAny (model prog w) A x (fun v s1 => ∃ o kw, v = .ref o ∧ s.heap.objs.size ≠ o ∧ (o == sysModules) = false ∧ s1.heap.get? s.heap.objs.size = some emptyDict ∧ s1.heap.DictOf (mixKind prog w) o (kwK kw) ∧ kw.length ≤ sizeLine ∧
      ∀ h', h'.DictOf (mixKind prog w) s.heap.objs.size (kwK kw) → Heap.SameBut s.heap.objs.size s1.heap h' → Q s.heap.objs.size { s1 with heap := h' }) E { s with heap := s.heap.push emptyDict }) :
    wpAny (model prog w) A (mergedKeywords f [(none, (do let v ← x; standAt pos; pure v))]) Q E s := by
  unfold mergedKeywords
  refine wpAny_bind (wpAny_alloc ?_)
  refine wpAny_bind (wpAny_holding ?_)
  dsimp only
  refine wpAny_bind ?_
  rw [List.forIn_cons]
  refine wpAny_bind ?_
  dsimp only
  refine wpAny_bind ?_
  rw [if_pos (show ([] : List (Str × Sem Value)).isEmpty = true from rfl)]
  refine wpAny_pure ?_
  refine wpAny_bind (wpAny_bind (wpAny_mono h (fun v s1 h1 => ?_) fun _ _ z => z))
  obtain ⟨o, kw, rfl, hne, hS, hD, hO, hz, hq⟩ := h1
  refine wpAny_bind (wpAny_standAt (wpAny_pure ?_))
  refine wpAny_bind ?_
  refine wpAny_onRaise ?_
  refine wpAny_holding ?_
  refine wpAny_tryCatch ?_
  refine wpAny_onRaise ?_
  have hd0 : s1.heap.DictOf (mixKind prog w) s.heap.objs.size ([] : List (Key × Value)) := ⟨_, _, 0, hD, ⟨rfl, rfl, rfl⟩, rfl, fun e he => (by simp at he), .nil, List.nodup_nil⟩
  refine merge_new hne hS hd0 hO (fun h' hd' sb => ?_) (by unfold kwK; rw [List.length_map]; exact hz)
  refine wpAny_pure ?_
  dsimp only
  rw [List.forIn_nil]
  refine wpAny_pure ?_
  rw [if_pos (show ([] : List (Str × Sem Value)).isEmpty = true from rfl)]
  exact wpAny_pure (wpAny_pure (hq h' hd' sb))
theorem args_kk {f : Value} {x : Sem Value} {pos : Pos} {Q : Args → Shared → Prop}
    (h : wpAny (model prog w) A x (fun v s1 => ∃ o kw, v = .ref o ∧ s.heap.objs.size ≠ o ∧ (o == sysModules) = false ∧ s1.heap.get? s.heap.objs.size = some emptyDict ∧ s1.heap.DictOf (mixKind prog w) o (kwK kw) ∧ kw.length ≤ sizeLine ∧
      ∀ h', h'.DictOf (mixKind prog w) s.heap.objs.size (kwK kw) → Heap.SameBut s.heap.objs.size s1.heap h' → Q ⟨[], kw⟩ { s1 with heap := h' }) E { s with heap := s.heap.push emptyDict }) :
    wpAny (model prog w) A (evalArgs f true [] [(none, (do let v ← x; standAt pos; pure v))]) Q E s := by
  unfold evalArgs
  dsimp only
  refine wpAny_bind (wpAny_of_eq (by rw [spliced] : spliced [] = pure []) ?_)
  refine wpAny_bind (wpAny_pure ?_)
  refine wpAny_holding ?_
  rw [if_neg (by simp)]
  refine wpAny_bind (merged_kw (wpAny_mono h (fun v s1 h1 => ?_) fun _ _ z => z))
  obtain ⟨o, kw, rfl, hne, hS, hD, hO, hz, hq⟩ := h1
  refine ⟨o, kw, rfl, hne, hS, hD, hO, hz, fun h' hd' sb => ?_⟩
  refine wpAny_bind (wpAny_pure ?_)
  refine wpAny_bind (wpAny_holding (kws_in hd' ?_))
  exact wpAny_pure (hq h' hd' sb)
theorem call_kk {f : Value} {first : List Value} {x : Sem Value} {pos p2 : Pos} {Q : Value → Shared → Prop} {K : PySem.W.Frag} (hk : PySem.W.keepIn K f = true)
    (h : wpAny (model prog w) A x (fun v s1 => ∃ o kw, v = .ref o ∧ s.heap.objs.size ≠ o ∧ (o == sysModules) = false ∧ s1.heap.get? s.heap.objs.size = some emptyDict ∧ s1.heap.DictOf (mixKind prog w) o (kwK kw) ∧ kw.length ≤ sizeLine ∧
      ∀ h', h'.DictOf (mixKind prog w) s.heap.objs.size (kwK kw) → Heap.SameBut s.heap.objs.size s1.heap h' → K.In h' ∧ wpAny (model prog w) A (call f (first ++ []) kw) Q E { s1 with heap := h' }) E { s with heap := s.heap.push emptyDict }) :
    wpAny (model prog w) A (callWith pos f first [] [(none, (do let v ← x; standAt p2; pure v))]) Q E s := by
  unfold callWith
  refine wpAny_bind (wpAny_holding (args_kk (wpAny_mono h (fun v s1 h1 => ?_) fun _ _ z => z)))
  obtain ⟨o, kw, rfl, hne, hS, hD, hO, hz, hq⟩ := h1
  refine ⟨o, kw, rfl, hne, hS, hD, hO, hz, fun h' hd' sb => ?_⟩
  obtain ⟨hK, hc⟩ := hq h' hd' sb
  refine wpAny_bind (wpAny_standAt ?_)
  obtain ⟨k, hk', L⟩ := PySem.W.keeps_K (M := model prog w) hk _ hK
  refine wpAny_bind (L.here ?_)
  have tail : ∀ {t : Sem Value}, wpAny (model prog w) A t Q E { s1 with heap := h' } → wpAny (model prog w) A (t >>= fun r => holding [r] point >>= fun _ => pure r) Q E { s1 with heap := h' } :=
    fun ht => wpAny_bind (wpAny_mono ht (fun r s₂ hr => wpAny_bind (wpAny_holding (wpAny_point (wpAny_pure hr)))) fun _ _ x => x)
  have marked (mk : Value) : wpAny (model prog w) A (callMarked mk f (first ++ []) kw) Q E { s1 with heap := h' } := by unfold callMarked; exact Calls.wpAny_keep hc
  rcases hk' with rfl | rfl | rfl <;> dsimp only [List.any_nil, List.any_cons, Option.isNone, Bool.or_true, Bool.or_false, Bool.false_or] <;> first | exact tail (marked _) | exact tail (wpAny_operating hc)
end
end KwX

namespace KwX
open PySem PySem.Spec PySem.Calls PyProof.Rows L2 StX
section
variable {prog : Program} {w : World} {A : Around} {E : Value → Shared → Prop} {s : Shared}
/-- the loop that puts the keywords that are left over aside -/
theorem extra_loop {β : Type} {g : Str × Value → β × List (Str × Value) → Sem (ForInStep (β × List (Str × Value)))} (b : β) : ∀ (kw : List (Str × Value)) (acc : List (Str × Value)), (∀ p ∈ kw, ∀ a, g p (b, a) = pure (.yield (b, a ++ [p]))) →
    forIn kw (b, acc) g = pure (b, acc ++ kw)
  | [], acc, _ => by rw [List.append_nil]; rfl
  | p :: r, acc, h => by
    rw [List.forIn_cons, h p (.head _) acc]
    show (forIn r (b, acc ++ [p]) g) = _
    rw [extra_loop b r (acc ++ [p]) fun q hq => h q (.tail _ hq), List.append_assoc]
    rfl
theorem bind_kw1 {params : Arguments} {name qual : Str} {body : List Stmt} {scope : Scope} {kV doc pm cdv ct : Value} {an : Option Addr} {u : Value} {kw : List (Str × Value)} {p1 pd : Str} {a1 ad : Arg} {Q : List (Str × Value) → Shared → Prop}
    (hpo : params.posonlyargs = []) (hpa : params.args = [a1]) (h1 : a1.arg = p1) (hva : params.vararg = none) (hko : params.kwonlyargs = []) (hkw : params.kwarg = some ad) (hd : ad.arg = pd) (hne : ∀ p ∈ kw, p.1 ≠ p1) (hz : kw.length ≤ sizeLine)
    (h : wpAny (model prog w) A (alloc emptyDict >>= fun d => (forIn kw PUnit.unit fun x _ => (nsSet d x.1 x.2 >>= fun _ => pure (ForInStep.yield PUnit.unit))) >>= fun _ => pure [(p1, u), (pd, Value.ref d)]) Q E s) :
    wpAny (model prog w) A (bindArgs (PySem.W.fnOf name qual params body scope .none kV doc pm an cdv ct) ⟨[u], kw⟩) Q E s := by
  obtain ⟨po, pa, va, ko, kd, kwa, df⟩ := params
  dsimp only at hpo hpa hva hko hkw
  subst hpo hpa hva hko hkw h1 hd
  unfold bindArgs PySem.W.fnOf
  dsimp only
  refine wpAny_bind (wpAny_of_eq (extra_loop _ kw [] fun p hp a => ?_) ?_)
  · have e1 : ((List.map (fun x => x.arg) [a1]).contains p.fst || (List.map (fun x => x.arg) ([] : List Arg)).contains p.fst) = false := by
      simp only [List.map_cons, List.map_nil, List.contains_cons, List.contains_nil, Bool.or_false]
      exact beq_eq_false_iff_ne.mpr (hne p hp)
    rw [e1, if_neg Bool.false_ne_true, if_pos (show (some ad).isSome = true from rfl)]
  rw [List.nil_append]
  dsimp only
  refine wpAny_bind (wpAny_of_eq (a := none) rfl ?_)
  have elk : List.lookup a1.arg [(a1.arg, u)] = some u := by rw [List.lookup_cons, beq_self_eq_true]
  simp only [List.map_nil, List.map_cons, List.nil_append, List.append_nil, List.zip_cons_cons, List.zip_nil_right, List.length_cons, List.length_nil, Option.getD_none, List.drop_nil, List.take_succ_cons, List.take_zero, List.filter_cons, List.filter_nil, elk, Option.isNone_some, Option.isNone_none, Nat.sub_zero, Nat.zero_add, List.isEmpty_nil, Bool.not_true, Bool.false_eq_true, if_false, List.zip_nil_right, List.filterMap_cons, List.filterMap_nil, Option.map_some, gt_iff_lt, Nat.lt_irrefl, decide_false, Bool.false_and]
  refine wpAny_bind ?_
  rw [List.forIn_nil]
  refine wpAny_pure (wpAny_bind ?_)
  rw [List.forIn_nil]
  refine wpAny_pure ?_
  rw [if_neg (by simp), if_neg (by omega)]
  simp only [elk]
  exact h
theorem ns_new {d : Addr} {es : List DictEntry} {n : Nat} {k : Str} {v : Value} {Q : Unit → Shared → Prop} (D : s.heap.get? d = some (PySem.W.dictOf es n))
    (hs : ∀ e ∈ es, e.key.isStr k = false) (hr : ∀ e ∈ es, e.refKey = false)
    (h : ∀ h', h'.get? d = some (PySem.W.dictOf (es ++ [⟨PyData.keyHash w.params k, .str k s.toks, v⟩]) (n + 1)) → Heap.SameBut d s.heap h' → Q () { s with heap := h', toks := s.toks + 1 }) :
    wpAny (model prog w) A (nsSet d k v) Q E s := by
  have e1 : es.any (·.key.isStr k) = false := by
    cases q : es.any (·.key.isStr k) with
    | false => rfl
    | true => obtain ⟨e, he, z⟩ := List.any_eq_true.mp q; rw [hs e he] at z; cases z
  have e2 : es.any (·.refKey) = false := by
    cases q : es.any (·.refKey) with
    | false => rfl
    | true => obtain ⟨e, he, z⟩ := List.any_eq_true.mp q; rw [hr e he] at z; cases z
  have e : Obj.putName k (PyData.keyHash w.params k) (.str k s.toks) v (PySem.W.dictOf es n) = PySem.W.dictOf (es ++ [⟨PyData.keyHash w.params k, .str k s.toks, v⟩]) (n + 1) := by
    rw [PySem.W.putName_dict, PySem.W.putL_new hs]
    show PySem.W.dictOf _ (if es.any (·.key.isStr k) then n else n + 1) = _
    rw [e1, if_neg Bool.false_ne_true]
  have c : aRefKeyMayBeTheName k es.toArray = false := by
    rw [aRefKeyMayBeTheName_at, ← Array.any_toList, ← Array.any_toList]
    show (!es.any (·.key.isStr k) && es.any (·.refKey)) = false
    rw [e2, Bool.and_false]
  unfold nsSet
  refine wpAny_bind (wpAny_bind (wpAny_askSetting (wpAny_pure (wpAny_bind (wpAny_mkText (wpAny_bind (wpAny_loadPart D ?_)))))))
  dsimp only
  rw [c]
  refine wpAny_updatePart D (h _ ?_ (Heap.SameBut.update ..))
  have z := Heap.get?_update_self (Obj.putName k (PyData.keyHash w.params k) (.str k s.toks) v) D (by rw [e]; rfl)
  rw [e] at z
  exact z
theorem fill {d : Addr} {Q : PUnit → Shared → Prop} : ∀ (ex : List (Str × Value)) (s : Shared) (es : List DictEntry) (n : Nat), s.heap.get? d = some (PySem.W.dictOf es n) →
    (∀ e ∈ es, ∀ x ∈ ex, e.key.isStr x.1 = false) → (∀ e ∈ es, e.refKey = false) → (ex.map (·.1)).Nodup →
    (∀ h', h'.get? d = some (PySem.W.dictOf (es ++ PySem.W.kwEs w.params s.toks ex) (n + ex.length)) → Heap.SameBut d s.heap h' → Q ⟨⟩ { s with heap := h', toks := s.toks + ex.length }) →
    wpAny (model prog w) A (forIn ex PUnit.unit fun x _ => (nsSet d x.1 x.2 >>= fun _ => pure (ForInStep.yield PUnit.unit))) Q E s
  | [], s, es, n, D, _, _, _, h => by
    rw [List.forIn_nil]
    refine wpAny_pure (h s.heap ?_ (Heap.SameBut.refl _ _))
    show s.heap.get? d = some (PySem.W.dictOf (es ++ []) n)
    rw [List.append_nil]
    exact D
  | x :: r, s, es, n, D, hs, hr, hn, h => by
    obtain ⟨hn1, hn2⟩ := List.nodup_cons.mp (show (x.1 :: r.map (·.1)).Nodup from hn)
    rw [List.forIn_cons]
    refine wpAny_bind (wpAny_bind (ns_new D (fun e he => hs e he x (.head _)) hr fun h' D' sb => wpAny_pure ?_))
    show wpAny (model prog w) A (forIn r PUnit.unit fun x _ => (nsSet d x.1 x.2 >>= fun _ => pure (ForInStep.yield PUnit.unit))) Q E { s with heap := h', toks := s.toks + 1 }
    refine fill r { s with heap := h', toks := s.toks + 1 } _ _ D' (fun e he y hy => ?_) (fun e he => ?_) hn2 fun h'' D'' sb' => ?_
    · rcases List.mem_append.mp he with he | he
      · exact hs e he y (.tail _ hy)
      · obtain rfl := List.mem_singleton.mp he
        show (x.1 == y.1) = false
        exact beq_eq_false_iff_ne.mpr fun q => hn1 (by rw [q]; exact List.mem_map_of_mem hy)
    · rcases List.mem_append.mp he with he | he
      · exact hr e he
      · obtain rfl := List.mem_singleton.mp he
        rfl
    · have t1 : s.toks + 1 + r.length = s.toks + (r.length + 1) := by omega
      have t2 : n + 1 + r.length = n + (r.length + 1) := by omega
      show Q ⟨⟩ { s with heap := h'', toks := s.toks + 1 + r.length }
      rw [t1]
      refine h h'' ?_ (sb.trans sb')
      rw [t2, List.append_assoc] at D''
      exact D''
theorem kw_pairs : ∀ (ex : List (Str × Value)) (t : Tok), Pairs (mixKind prog w) (PySem.W.kwEs w.params t ex) (kwK ex)
  | [], _ => Pairs.nil
  | x :: r, t => Pairs.cons (mixKind_str prog w x.1 t) rfl (kw_pairs r (t + 1))
theorem kw_nodup {α : Type} {ex : List (Str × α)} (hn : (ex.map (·.1)).Nodup) : ((kwK ex).map (·.1)).Nodup := by
  have e : (kwK ex).map (·.1) = (ex.map (·.1)).map (Sum.inr : Str → Key) := by unfold kwK; rw [List.map_map, List.map_map]; rfl
  rw [e]
  exact hn.map _ fun a b q z => q (by injection z)
theorem kw_dict {h : Heap} {d : Addr} {ex : List (Str × Value)} {t : Tok} {n : Nat} (hn : (ex.map (·.1)).Nodup) (D : h.get? d = some (PySem.W.dictOf (PySem.W.kwEs w.params t ex) n)) : h.DictOf (mixKind prog w) d (kwK ex) :=
  ⟨_, (PySem.W.kwEs w.params t ex).toArray, n, D, ⟨rfl, rfl, rfl⟩, rfl, fun e he => by
    obtain ⟨k, u, hk, hh⟩ := PySem.W.kwEs_key ex t e (List.mem_toArray.mp he)
    exact ⟨Sum.inr k, by rw [hk]; exact mixKind_str prog w k u, hh.trans rfl⟩, kw_pairs ex t, kw_nodup hn⟩
end
end KwX

/-! defs with **kw: their promise, calls, new instances -/
namespace KwX
open PySem PySem.Spec PySem.Calls PyProof.Rows L2 StX
abbrev SpK := List V → List (Str × V) → Hp → VK → XK → Prop
def FnK (P : Program) (w : World) (K : PySem.W.Frag) (mg : Str → Option Value) (base : Heap) (CX : CXT) (k : Nat) (f : Addr) (sp : SpK) : Prop :=
  ∀ (A : Around) (outer : List Env) (s : Shared) (H : Hp) (us : List Value) (kw : List (Str × Value)) (vs : List V) (l : List (Str × V)) (Q : VK) (E : XK), Room k A → Env0 P w K mg base A outer s H → Vals vs us → KV l kw → (l.map (·.1)).Nodup → sp vs l H Q E →
    codeAny (model P w) A (.call (.ref f) ⟨us, kw⟩) (CR CX outer P w H s Q E) s
section
variable {P : Program} {w : World} {K : PySem.W.Frag} {mg : Str → Option Value} {base : Heap} {A : Around} {outer : List Env} {s : Shared} {H : Hp}
theorem env0_keep {a : Addr} {u : HO} {h' : Heap} {t' : Nat} (e0 : Env0 P w K mg base A outer s H) (kp : ∀ b x, s.heap.get? b = some x → h'.get? b = some x) (hz : s.heap.objs.size ≤ h'.objs.size) (ha : s.heap.objs.size ≤ a) (new : ObjOk P w (upd H a u) h' a u) :
    Env0 P w K mg base A outer { s with heap := h', toks := t' } (upd H a u) := by
  refine ⟨e0.frames, e0.mod, fun b x e => ⟨kp b x (e0.bs b x e).1, ?_⟩, Nat.le_trans e0.bsz hz, Heap.FunFrames.of_keeps (fun b x e _ => ⟨x, kp b x e, rfl⟩) e0.funs, fun b hb => ?_, e0.hok.laid kp ha new, e0.bare⟩
  · rw [upd_ne (Nat.ne_of_lt (Nat.lt_of_lt_of_le (Heap.lt_size (e0.bs b x e).1) ha))]
    exact (e0.bs b x e).2
  · obtain ⟨_, x, hx, _⟩ := e0.funs.mem hb
    rw [upd_ne (Nat.ne_of_lt (Nat.lt_of_lt_of_le (Heap.lt_size hx) ha))]
    exact e0.frf b hb
theorem kv_kwK : ∀ {l : List (Str × V)} {kw : List (Str × Value)}, KV l kw → KV (kwK l) (kwK kw)
  | _, _, .nil => .nil
  | _, _, .cons h t => .cons ⟨congrArg Sum.inr h.1, h.2⟩ (kv_kwK t)
theorem kwK_inv : ∀ {l : List (Str × V)} {vs : List (Key × Value)}, KV (kwK l) vs → ∃ kw, vs = kwK kw ∧ KV l kw
  | [], _, .nil => ⟨[], rfl, .nil⟩
  | p :: r, q :: _, .cons h t => by
    obtain ⟨kw, e, hk⟩ := kwK_inv (l := r) t
    obtain ⟨h1, h2⟩ := h
    refine ⟨(p.1, q.2) :: kw, ?_, .cons ⟨rfl, h2⟩ hk⟩
    rw [e]
    have : q = (Sum.inr p.1, q.2) := by rw [show (Sum.inr p.1 : Key) = q.1 from h1]
    rw [this]; rfl
theorem kwK_nodup {l : List (Str × V)} (hn : ((kwK l).map (·.1)).Nodup) : (l.map (·.1)).Nodup := by
  have e : (kwK l).map (·.1) = (l.map (·.1)).map (Sum.inr : Str → Key) := by unfold kwK; rw [List.map_map, List.map_map]; rfl
  rw [e] at hn
  exact List.Pairwise.of_map _ (fun a b h => fun q => h (by rw [q])) hn
theorem kwK_length {α : Type} (l : List (Str × α)) : (kwK l).length = l.length := List.length_map ..
end
section
variable {CX : CXT} {P : Program} {w : World} {K : PySem.W.Frag} {mg : Str → Option Value} {base : Heap} {k : Nat} {f : Addr} {name qual : Str} {params : Arguments} {body : List Stmt} {scope : Scope} {kV doc pm cdv ct oc : Value} {an od : Option Addr}
  {osl : Array (Option Value)} {N : List Str} {p1 pd : Str} {a1 ad : Arg} {sp : Sp}
/-- def f(self, **kw) -/
theorem fnK1 (lk : K.lookup f = some ⟨oc, od, .func (PySem.W.fnOf name qual params body scope .none kV doc pm an cdv ct), osl⟩) (hcd : PySem.W.codeIn K cdv qual = true) (S : FnScope N [p1, pd] scope) (hCX : CXUp CX)
    (hpo : params.posonlyargs = []) (hpa : params.args = [a1]) (h1 : a1.arg = p1) (hva : params.vararg = none) (hko : params.kwonlyargs = []) (hkw : params.kwarg = some ad) (hd : ad.arg = pd)
    (hbody : ∀ (A : Around) (outer : List Env) (s : Shared) (H : Hp) (vs : List V) (Q : VK) (E : XK), Room k (A.deeper (envOfC qual scope s.heap.objs.size f cdv)) → sp vs H Q E →
      ∃ t, PSs (cxOf CX P w K mg base N qual scope f cdv A outer s H E) body t ∧ t { nx := fun _ H' => Q .non H', rt := Q } (start N vs) H) :
    FnK P w K mg base CX (k + 1) f (fun vs l H Q E => ∃ x, vs = [x] ∧ (∀ p ∈ l, p.1 ≠ p1) ∧ l.length ≤ sizeLine ∧ ∀ d, H d = none → sp [x, .ref d] (upd H d (.dK (kwK l))) Q E) := by
  intro A outer s H us kw vs l Q E hr e0 r rk hn hsp
  obtain ⟨x, rfl, hne, hz, hq⟩ := hsp
  cases r with
  | @cons _ u _ _ rx rn =>
  cases rn
  have hl : l.length = kw.length := rk.length
  have hkeys : l.map (·.1) = kw.map (·.1) := KV.keys rk
  have hn' : (kw.map (·.1)).Nodup := hkeys ▸ hn
  have hne' : ∀ p ∈ kw, p.1 ≠ p1 := fun p hp e => by
    have : p.1 ∈ l.map (·.1) := by rw [hkeys]; exact List.mem_map_of_mem hp
    obtain ⟨q, hq1, hq2⟩ := List.mem_map.mp this
    exact hne q hq1 (hq2.trans e)
  have hnn : H s.heap.objs.size = none := e0.hok.fresh (Nat.le_refl _)
  refine run_bnd lk hcd S hr e0 (G := fun xs H2 => ∃ d, H d = none ∧ xs = [x, V.ref d] ∧ H2 = upd H d (.dK (kwK l))) (fun A' Ex Q' h => ?_) fun s2 H2 xs ⟨d, hdn, ex, eH⟩ hr' => ?_
  · refine bind_kw1 hpo hpa h1 hva hko hkw hd hne' (by omega) ?_
    refine wpAny_bind (wpAny_alloc (wpAny_bind ?_))
    refine fill (d := s.heap.objs.size) kw _ [] 0 (Heap.get?_push_size _ rfl) (fun _ he => nomatch he) (fun _ he => nomatch he) hn' fun h' D sb => wpAny_pure ?_
    rw [List.nil_append] at D
    have kp : ∀ b o, s.heap.get? b = some o → h'.get? b = some o := fun b o q => (sb.2 b (Nat.ne_of_lt (Heap.lt_size q))).trans (Heap.get?_push_of_some _ q)
    have hsz : s.heap.objs.size ≤ h'.objs.size := Nat.le_of_lt (Heap.lt_size D)
    have big := env0_big e0
    have new : ObjOk P w (upd H s.heap.objs.size (.dK (kwK l))) h' s.heap.objs.size (.dK (kwK l)) :=
      ⟨by rw [kwK_length]; exact hz, beq_eq_false_iff_ne.mpr (Nat.ne_of_gt big), kwK kw, kv_kwK rk, kw_dict hn' D⟩
    have un : Un (frs outer) [] H (upd H s.heap.objs.size (.dK (kwK l))) s.heap h' := Un.laid kp (Nat.le_refl _) hnn
    have e1 : Env0 P w K mg base A outer { s with heap := h', toks := s.toks + kw.length } (upd H s.heap.objs.size (.dK (kwK l))) := env0_keep e0 kp hsz (Nat.le_refl _) new
    exact h _ _ [x, V.ref s.heap.objs.size] [u, Value.ref s.heap.objs.size] e1 un rfl (fun e s' => hCX outer s H _ _ E e s' un kp rfl) (.cons rx (.cons rfl .nil)) rfl ⟨_, hnn, rfl, rfl⟩
  · subst ex eH
    exact hbody A outer s2 _ _ Q E hr' (hq d hdn)
end

/-- a new instance of C by its __init__ with keywords -/
def InsQ (C : Addr) (sp : SpK) (vs : List V) (l : List (Str × V)) (H : Hp) (Q : VK) (E : XK) : Prop := ∀ x dx, H x = none → H dx = none → dx ≠ x →
  sp (.ref x :: vs) l (upd (upd H dx (.own x)) x (.ins C dx [])) (fun v H3 => v = .non ∧ Q (.ref x) H3) E
section
variable {X : Cx} {CX : CXT} {k n : Nat} {f C : Addr} {ks : List Str} {sp : SpK} {E : XK} {x : Str} {p pos kp : Pos} {e : Expr} {es : List Expr} {kws : List Keyword} {tf te : TE} {t tk : TA}
theorem run_newK {pins : List (Addr × Obj)} {σ : L2.St} {H : Hp} {s : Shared} {Q : VK} {us : List Value} {kw : List (Str × Value)} {vs : List V} {l : List (Str × V)} (M : Mk X.K C f) (F : FnK X.prog X.w X.K X.mg X.base CX k f sp) (hr : Room (k + 1) X.A)
    (hx : Passes CX X E) (I : Inv X pins σ H s) (r : Vals vs us) (rz : KV l kw) (hn : (l.map (·.1)).Nodup) (h : InsQ C sp vs l H Q E) :
    wpAny (model X.prog X.w) X.A (call (.ref C) us kw) (EP X pins σ Q) X.xe s := by
  have hq := h (s.heap.objs.size + 1) s.heap.objs.size (I.hok.fresh (Nat.le_succ _)) (I.hok.fresh (Nat.le_refl _)) (Nat.ne_of_lt (Nat.lt_succ_self _))
  have I2 := Inv.made (C := C) I
  have r1 : Vals (V.ref (s.heap.objs.size + 1) :: vs) (Value.ref (s.heap.objs.size + 1) :: us) := .cons rfl r
  refine wpAny_call (make_map (f := f) I.kIn M.makes M.init (beq_iff_eq.mp M.fn) (codeAny_mono (F _ X.stack _ _ (Value.ref (s.heap.objs.size + 1) :: us) kw _ _ _ E (hr.make C us kw)
    (I2.env0.make C us kw) r1 rz hn hq) fun r s' hq' => ?_))
  cases r with
  | error e => exact hx pins σ _ _ e s' I2 hq'
  | ok fl =>
    cases fl with
    | ret u =>
      obtain ⟨v, H', I3, rv, ev, q3⟩ := I2.after hq'
      subst ev
      exact ⟨rv, ⟨V.ref (s.heap.objs.size + 1), H', I3, rfl, q3⟩⟩
    | next => exact False.elim hq'
    | brk => exact False.elim hq'
    | cont => exact False.elim hq'
/-- C(**e), the callee a name -/
def tNewS (C : Addr) (sp : SpK) (E : XK) (tf te : TE) : TE := fun σ H Q => tf σ H fun y H1 => y = .ref C ∧ te σ H1 fun z H2 => ∃ a l, z = .ref a ∧ H2 a = some (.dK (kwK l)) ∧ InsQ C sp [] l H2 Q E
theorem pe_newS (hc : PE X (.Name x p) tf) (M : Mk X.K C f) (F : FnK X.prog X.w X.K X.mg X.base CX k f sp) (hr : Room (k + 1) X.A) (hx : Passes CX X E) (he : PE X e te) :
    PE X (.Call (.Name x p) [] [⟨none, e, kp⟩] pos) (tNewS C sp E tf te) := by
  refine ⟨fun pins s σ H Q I h => ?_⟩
  refine wpAny_Call_Name_kw (thn (hc.run pins s σ H _ I h) fun u s1 ⟨y, H1, I1, ry, ey, q⟩ => ?_)
  subst ey
  obtain rfl : u = Value.ref C := ry
  refine call_kk M.kp ?_
  have hb : X.base.get? s1.heap.objs.size = none := by
    cases e : X.base.get? s1.heap.objs.size with
    | none => rfl
    | some o => exact absurd (Heap.lt_size (I1.bs _ o e).1) (Nat.lt_irrefl _)
  have I2 : Inv X ((s1.heap.objs.size, emptyDict) :: pins) σ H1 { s1 with heap := s1.heap.push emptyDict } := by
    have I1' := I1.kept (h' := s1.heap.push emptyDict) (t' := s1.toks) fun _ _ z => Heap.get?_push_of_some _ z
    refine I1'.pins_of fun q hq => ?_
    rcases List.mem_cons.mp hq with e | e
    · subst e
      exact ⟨Heap.get?_push_size _ rfl, I1.hok.fresh (Nat.le_refl _), Nat.ne_of_gt I1.lt, I1.nofs (Nat.le_refl _), fun v z => nomatch z⟩
    · exact I1'.pin q (List.mem_append_right _ e)
  refine thn (he.run _ _ σ H1 _ I2 q) fun u s3 ⟨z, H3, I3, rz, a, l, ez, ha, hq⟩ => ?_
  subst ez
  obtain rfl : u = Value.ref a := rz
  have hD := I3.pin (s1.heap.objs.size, emptyDict) (List.mem_append_right _ List.mem_cons_self)
  obtain ⟨hz, hS, vs, rk, hO⟩ := I3.hok a _ ha
  obtain ⟨kw, ek, rk'⟩ := kwK_inv rk
  subst ek
  obtain ⟨_, _, _, _, _, _, _, _, hnd⟩ := id hO
  have hnl : (l.map (·.1)).Nodup := kwK_nodup (by rw [KV.keys rk]; exact hnd)
  have hne : s1.heap.objs.size ≠ a := fun e => by
    have := hD.2.1
    rw [show (s1.heap.objs.size, emptyDict).1 = a from e, ha] at this
    cases this
  refine ⟨a, kw, rfl, hne, hS, hD.1, hO, by rw [← rk'.length, ← kwK_length l]; exact hz, fun h' hd' sb => ?_⟩
  have sz3 : X.s_0.heap.objs.size ≤ s1.heap.objs.size := I1.sz
  have I4 : Inv X pins σ H3 { s3 with heap := h' } := by
    have I3' : Inv X pins σ H3 s3 := I3.pins_of fun q hq => I3.pin q (List.mem_append_right _ (List.mem_cons_of_mem _ hq))
    refine I3'.turned (t' := s3.toks) (fun b o hb z => (sb.2 b hb).trans z) hD.2.1 hD.2.2.1 (.inr sz3) (fun y c ec z => ?_) fun q hq z => ?_
    · obtain ⟨v, o, ho, hd⟩ := I3.cell y c ec
      rw [z, hD.1] at ho
      cases ho
      cases hd
    · have lt : q.1 < s1.heap.objs.size := Heap.lt_size (I1.pin q hq).1
      exact absurd z (Nat.ne_of_lt lt)
  exact ⟨I4.kIn, run_newK M F hr hx I4 .nil rk' hnl hq⟩
/-- C(), C(k = v, ..): keywords alone -/
def tNewK (C : Addr) (ks : List Str) (sp : SpK) (E : XK) (tk : TA) : TE := fun σ H Q => tk σ H fun zs H1 => zs.length = ks.length ∧ InsQ C sp [] (ks.zip zs) H1 Q E
theorem kv_zip : ∀ {ks : List Str} {zs : List V} {ws : List Value}, Vals zs ws → KV (ks.zip zs) (ks.zip ws)
  | [], _, _, _ => by simp only [List.zip_nil_left]; exact .nil
  | k :: ks, [], _, .nil => by simp only [List.zip_nil_right]; exact .nil
  | k :: ks, z :: zs, w :: ws, .cons h t => .cons ⟨rfl, h⟩ (kv_zip t)
theorem pe_newK (hg : Gl X x) (hm : X.mg x = some (.ref C)) (M : Mk X.K C f) (F : FnK X.prog X.w X.K X.mg X.base CX k f sp) (hr : Room (k + 1) X.A) (hx : Passes CX X E) (hkw : PK X kws tk) (hnd : ks.Nodup)
    (hall : (backToKw pos (keywordEach kws X.env)).all (·.1.isSome) = true := by rfl) (hks : (backToKw pos (keywordEach kws X.env)).filterMap (·.1) = ks := by rfl)
    (hdb : (x == ("__debug__" : Str)) = false := by decide) (hpl : ((backTo pos (starEach [] X.env)).any (·.1) || (backToKw pos (keywordEach kws X.env)).any (·.1.isNone)) = false := by rfl) :
    PE X (.Call (.Name x p) [] kws pos) (tNewK C ks sp E tk) := by
  refine ⟨fun pins s σ H Q I h => ?_⟩
  refine wpAny_Call_Name_kw (ld_glob I hg hm ?_ hdb)
  refine PySem.W.callWith_KW0 (h₀ := X.base) I.ok.mod.kin M.kp hall (thn (hkw.run pos pins s σ H _ I h) fun ws s2 ⟨zs, H2, I2, rz, l2, q2⟩ => ⟨I2.kIn, ?_⟩) hpl
  rw [hks]
  refine run_newK M F hr hx I2 .nil (kv_zip rz) ?_ q2
  rw [List.map_fst_zip (by rw [l2]; exact Nat.le_refl _)]
  exact hnd
end
end KwX

/-! a class's own len, bool, in, x[i], ==, !=, repr, str, f-strings -/
namespace KwX
open PySem PySem.Spec PySem.Calls PyProof.Rows L2 StX
structure OwnD (K : PySem.W.Frag) (C : Addr) (nm : Str) (f : Addr) : Prop where
  fi : PySem.W.findIn K (.ref C) nm = some (some (.ref f))
  fn : PySem.W.isFn K (.ref f) = true
def InsAt (H : Hp) (a C : Addr) : Prop := ∃ dx fs, H a = some (.ins C dx fs)
section
variable {X : Cx} {CX : CXT} {k n : Nat} {f C a : Addr} {sp : Sp} {E : XK} {pins : List (Addr × Obj)} {σ : L2.St} {H : Hp} {s : Shared} {Q : VK}
theorem inst_of (I : Inv X pins σ H s) (h : InsAt H a C) : ∃ ox od, PySem.W.InstAt s.heap a ox C od := by
  obtain ⟨dx, fs, ha⟩ := h
  obtain ⟨mA, J, _⟩ := ins_get I.hok ha
  obtain ⟨od, J, _⟩ := J.look
  exact ⟨_, _, J⟩
theorem run_at {A' : Around} {us : List Value} {vs : List V} (sb : Sub X n A') (F : FnR X.prog X.w X.K X.mg X.base CX n f sp) (hx : Passes CX X E) (I : Inv X pins σ H s) (r : Vals vs us) (h : sp vs H Q E) :
    wpAny (model X.prog X.w) A' (call (.ref f) us) (EP X pins σ Q) X.xe s := by
  have e0 : Env0 X.prog X.w X.K X.mg X.base A' X.stack s H := by
    have e := I.env0
    exact ⟨by rw [sb.fr]; exact e.frames, e.mod, e.bs, e.bsz, e.funs, e.frf, e.hok, e.bare⟩
  refine wpAny_call (codeAny_mono (F A' X.stack s H us vs Q E sb.room e0 r h) fun r s' hq => ?_)
  cases r with
  | error e => exact hx pins σ H s e s' I hq
  | ok fl =>
    cases fl with
    | ret u => exact I.after hq
    | next => exact False.elim hq
    | brk => exact False.elim hq
    | cont => exact False.elim hq
theorem sub0 (hr : Room n X.A) : Sub X n X.A := ⟨hr, rfl⟩
theorem sub1 (hr : Room (n + 1) X.A) : Sub X n X.A.in1 := (sub0 hr).in1
/-- len(o) -/
def rLenO (C : Addr) (sp : Sp) (E : XK) : List V → Hp → VK → Prop := fun xs H Q => ∃ a, xs = [.ref a] ∧ InsAt H a C ∧ sp [.ref a] H (fun v H' => ∃ i, v = .int i ∧ 0 ≤ i ∧ i < 2 ^ 63 ∧ Q (.int i) H') E
theorem call_lenO (O : OwnD X.K C "__len__" f) (F : FnR X.prog X.w X.K X.mg X.base CX n f sp) (hr : Room (n + 1) X.A) (hx : Passes CX X E) : CallR X (.builtin "len") (rLenO C sp E) := by
  intro pins s σ H xs us Q I r h
  obtain ⟨a, rfl, ha, hs⟩ := h
  obtain ⟨u, rfl, ru⟩ := vals1 r
  obtain rfl : u = Value.ref a := ru
  obtain ⟨ox, od, J⟩ := inst_of I ha
  obtain ⟨m, hF⟩ := I.fr
  refine PySem.W.len_K hF I.ok.mod.kin J O.fi O.fn (thn (run_at (sub1 hr) (us := [.ref a]) (vs := [.ref a]) F hx I (.cons rfl .nil) hs) fun v s' hv => ?_)
  obtain ⟨x, H', I', rx, i, rfl, h0, h1, q⟩ := hv
  obtain ⟨t, rfl⟩ := rx
  exact ⟨⟨h0, h1⟩, .int i, H', I'.tok _, ⟨_, rfl⟩, q⟩
/-- repr(o) -/
def rStrO (C : Addr) (sp : Sp) (E : XK) : List V → Hp → VK → Prop := fun xs H Q => ∃ a, xs = [.ref a] ∧ InsAt H a C ∧ sp [.ref a] H (fun v H' => ∃ y, v = .str y ∧ Q (.str y) H') E
theorem call_reprO (O : OwnD X.K C "__repr__" f) (F : FnR X.prog X.w X.K X.mg X.base CX n f sp) (hr : Room (n + 1) X.A) (hx : Passes CX X E) : CallR X (.builtin "repr") (rStrO C sp E) := by
  intro pins s σ H xs us Q I r h
  obtain ⟨a, rfl, ha, hs⟩ := h
  obtain ⟨u, rfl, ru⟩ := vals1 r
  obtain rfl : u = Value.ref a := ru
  obtain ⟨ox, od, J⟩ := inst_of I ha
  obtain ⟨m, hF⟩ := I.fr
  refine PySem.W.repr_K (sub1 hr).room.units0 hF I.ok.mod.kin J O.fi O.fn (thn (run_at (sub1 hr) (us := [.ref a]) (vs := [.ref a]) F hx I (.cons rfl .nil) hs) fun v s' hv => ?_)
  obtain ⟨x, H', I', rx, y, rfl, q⟩ := hv
  obtain ⟨t, rfl⟩ := rx
  exact ⟨.str y, H', I', ⟨_, rfl⟩, q⟩
/-- str(o) -/
theorem call_strO (O : OwnD X.K C "__str__" f) (F : FnR X.prog X.w X.K X.mg X.base CX n f sp) (hr : Room (n + 2) X.A) (hx : Passes CX X E) : CallR X (.type "str") (rStrO C sp E) := by
  intro pins s σ H xs us Q I r h
  obtain ⟨a, rfl, ha, hs⟩ := h
  obtain ⟨u, rfl, ru⟩ := vals1 r
  obtain rfl : u = Value.ref a := ru
  obtain ⟨ox, od, J⟩ := inst_of I ha
  have sb : Sub X n X.A.in1.in1 := (sub1 (n := n + 1) hr).in1
  refine PySem.W.kso_call sb.room.units0 I.kIn J O.fi O.fn (thn (run_at sb (us := [.ref a]) (vs := [.ref a]) F hx I (.cons rfl .nil) hs) fun v s' hv => ?_)
  obtain ⟨x, H', I', rx, y, rfl, q⟩ := hv
  obtain ⟨t, rfl⟩ := rx
  exact ⟨.str y, H', I', ⟨_, rfl⟩, q⟩
/-- {o} in an f-string, o with an own __str__ -/
def tFmtO (C : Addr) (sp : Sp) (E : XK) (te : TE) : TE := fun σ H Q => te σ H fun x H1 => rStrO C sp E [x] H1 Q
theorem pe_fmtO {e : Expr} {te : TE} {pos : Pos} (he : PE X e te) (O : OwnD X.K C "__str__" f) (hfm : PySem.W.findIn X.K (.ref C) "__format__" = some (some (.builtin "object.__format__"))) (hm : PySem.W.mroIn X.K C (.type "object") = some true)
    (F : FnR X.prog X.w X.K X.mg X.base CX n f sp) (hr : Room (n + 1) X.A) (hx : Passes CX X E) : PE X (.FormattedValue e (-1) none pos) (tFmtO C sp E te) := by
  refine ⟨fun pins s σ H Q I h => ?_⟩
  refine wpAny_FormattedValue_plain (thn (he.run pins s σ H _ I h) fun v s1 hv => ?_)
  obtain ⟨x, H1, I1, r1, a, ex, ha, hs⟩ := hv
  cases ex
  obtain rfl : v = Value.ref a := r1
  obtain ⟨ox, od, J⟩ := inst_of I1 ha
  refine PySem.W.kfo_fieldS (sub1 hr).room.units0 I1.kIn J hfm hm O.fi O.fn (thn (run_at (sub1 hr) (us := [.ref a]) (vs := [.ref a]) F hx (I1.tok _) (.cons rfl .nil) hs) fun v s' hv => ?_)
  obtain ⟨x, H', I', rx, y, rfl, q⟩ := hv
  obtain ⟨t, rfl⟩ := rx
  exact ⟨.str y, H', I', ⟨_, rfl⟩, q⟩
/-- x in o -/
def rInO (C : Addr) (sp : Sp) (E : XK) : R2 := fun x y H Q => ∃ a, y = .ref a ∧ InsAt H a C ∧ sp [.ref a, x] H (fun v H' => ∃ b, v = .bl b ∧ Q (.bl b) H') E
theorem op_inO (O : OwnD X.K C "__contains__" f) (F : FnR X.prog X.w X.K X.mg X.base CX n f sp) (hr : Room n X.A) (hx : Passes CX X E) : OpR X (compareOp .In) (rInO C sp E) := by
  intro pins s σ H x y v u Q I rx ry h
  obtain ⟨a, rfl, ha, hs⟩ := h
  obtain rfl : u = Value.ref a := ry
  obtain ⟨ox, od, J⟩ := inst_of I ha
  obtain ⟨m, hF⟩ := I.fr
  refine PySem.W.in_K hF I.ok.mod.kin J O.fi O.fn (thn (run_at (sub0 hr) (us := [.ref a, v]) (vs := [.ref a, x]) F hx I (.cons rfl (.cons rx .nil)) hs) fun v s' hv => ?_)
  obtain ⟨z, H', I', rz, b, rfl, q⟩ := hv
  obtain rfl := rz
  exact wpAny_truthy_bool ⟨.bl b, H', I', rfl, q⟩
/-- o[x] -/
def rIxO (C : Addr) (sp : Sp) (E : XK) : R2 := fun x y H Q => ∃ a, x = .ref a ∧ InsAt H a C ∧ sp [.ref a, y] H Q E
theorem ix_own (O : OwnD X.K C "__getitem__" f) (hf : PySem.W.fnIn X.K f = true) (F : FnR X.prog X.w X.K X.mg X.base CX n f sp) (hr : Room (n + 1) X.A) (hx : Passes CX X E) {a b : Expr} {ta tb : TE} {pos : Pos} (ha : PE X a ta) (hb : PE X b tb)
    (hsl : ∀ o i, subscripted b true o i = runValue (.builtin "lifetime.subscript" ⟨[o, i], []⟩)) : PE X (.Subscript a b pos) (tOp (rIxO C sp E) ta tb) := by
  refine ⟨fun pins s σ H Q I h => ?_⟩
  refine Subscript_ (binT ha hb I h fun v u s2 x y H2 I2 rx ry q => ?_)
  obtain ⟨a', rfl, hi, hs⟩ := q
  obtain rfl : v = Value.ref a' := rx
  obtain ⟨ox, od, J⟩ := inst_of I2 hi
  obtain ⟨m, hF⟩ := I2.fr
  exact PySem.W.sub_K hF I2.ok.mod.kin J O.fi hf O.fn (run_at (sub1 hr) (us := [.ref a', u]) (vs := [.ref a', y]) F hx I2 (.cons rfl (.cons ry .nil)) hs) (hsl _ _)
/-- o == y -/
def rEqO (K : PySem.W.Frag) (C : Addr) (sp : Sp) (E : XK) : R2 := fun x y H Q => ∃ a t, x = .ref a ∧ InsAt H a C ∧ TyX K H y t ∧ PySem.W.notFirst K C t = true ∧ sp [.ref a, y] H (fun v H' => ∃ b, v = .bl b ∧ Q (.bl b) H') E
theorem op_eqO (O : OwnD X.K C "__eq__" f) (F : FnR X.prog X.w X.K X.mg X.base CX n f sp) (hr : Room n X.A) (hx : Passes CX X E) : OpR X (compareOp .Eq) (rEqO X.K C sp E) := by
  intro pins s σ H x y v u Q I rx ry h
  obtain ⟨a, t, rfl, ha, hty, hn, hs⟩ := h
  obtain rfl : v = Value.ref a := rx
  obtain ⟨ox, od, J⟩ := inst_of I ha
  obtain ⟨m, hF⟩ := I.fr
  obtain ⟨P, Z, hP, _⟩ := kit_of I ry hty
  show wpAny (model X.prog X.w) X.A (richCompare .Eq (.ref a) u) (EP X pins σ Q) X.xe s
  refine PySem.W.cmp_K (op := .Eq) hr.units0 hF I.ok.mod.kin J (Z.ty _ _ I.kIn hP) hn O.fi O.fn (thn (run_at (sub0 hr) (us := [.ref a, u]) (vs := [.ref a, y]) F hx I (.cons rfl (.cons ry .nil)) hs) fun z s' hv => ?_)
  obtain ⟨x, H', I', rz, b, rfl, q⟩ := hv
  obtain rfl := rz
  exact ⟨.bl b, H', I', rfl, q⟩
/-- o != y: by the own ==, turned -/
def rNeO (K : PySem.W.Frag) (C : Addr) (sp : Sp) (E : XK) : R2 := fun x y H Q => ∃ a t, x = .ref a ∧ InsAt H a C ∧ TyX K H y t ∧ PySem.W.notFirst K C t = true ∧ sp [.ref a, y] H (fun v H' => ∃ b, v = .bl b ∧ Q (.bl (!b)) H') E
theorem ifBound_B {M : Model} {A : Around} {E : Value → Shared → Prop} {s : Shared} {K : PySem.W.Frag} {x C : Addr} {ox : Obj} {od : Option Obj} {name : Str} {id : String} {args : List Value} {Q : Option Value → Shared → Prop} (X : K.In s.heap) (I : PySem.W.InstAt s.heap x ox C od)
    (hs : PySem.W.findIn K (.ref C) name = some (some (.builtin id))) (hb : ∀ self, bindSpecial (.builtin id) self = pure (.builtin id, [self]))
    (h : wpAny M A (call (.builtin id) (.ref x :: args)) (fun v => Q (some v)) E s) : wpAny M A (callSpecialIfBound? (.ref x) name args) Q E s := by
  simp only [callSpecialIfBound?, bindSpecialIfBound?]
  refine wpAny_holding (wpAny_bind (wpAny_bind (wpAny_bind (I.type.here ((PySem.W.looks_findIn X hs).here ?_)))))
  refine wpAny_bind (wpAny_askSetting (wpAny_ite ?_))
  have fin : wpAny M A (call (.builtin id) ([.ref x] ++ args) >>= fun v => pure (some v)) Q E s := wpAny_bind (wpAny_mono h (fun v s' h' => wpAny_pure h') fun _ _ h' => h')
  split
  · exact wpAny_bind ((PySem.W.Looks.of_pure (hb _)).here (wpAny_pure (by exact fin)))
  · exact wpAny_tryCatch (wpAny_bind ((PySem.W.Looks.of_pure (hb _)).here (wpAny_pure (by exact fin))))
theorem ne_call {prog : Program} {w : World} {A : Around} {E : Value → Shared → Prop} {s : Shared} {K : PySem.W.Frag} {x C f : Addr} {ox : Obj} {od : Option Obj} {b : Value} {Q : Value → Shared → Prop} (hu : A.in1.units < cLine) (X : K.In s.heap) (I : PySem.W.InstAt s.heap x ox C od)
    (hm : PySem.W.mroIn K C (.type "object") = some true) (hs : PySem.W.findIn K (.ref C) "__eq__" = some (some (.ref f))) (hf : PySem.W.isFn K (.ref f) = true)
    (h : wpAny (model prog w) A.in1 (call (.ref f) [.ref x, b]) (fun v s' => ∃ k, v = .bool k ∧ Q (.bool (!k)) s') E s) : wpAny (model prog w) A (call (.builtin "object.__ne__") [.ref x, b]) Q E s := by
  refine wpAny_call (codeAny_call_builtin PySem.F.slot_object_ne.plain PySem.F.entry_object_ne (PySem.W.check_slot (i := "object.__ne__") (owner := "object") (n := "__ne__") (by decide +kernel) (by decide +kernel) (I.type.andThen (PySem.W.looks_mroIn X hm)) (PySem.F.args_object_ne_2 _ _) ?_))
  unfold Builtin.«object.__ne__»
  refine wpAny_bind (wpAny_pure ?_)
  refine wpAny_bind (m := cRoomFor _ _) (wpAny_cRoomFor hu ?_)
  refine wpAny_bind (m := callSpecialIfBound? (.ref x) (Str.ofString "__eq__") _) (PySem.W.ifBound_K X I hs hf (wpAny_mono h (fun r s' hq => ?_) fun _ _ y => y))
  obtain ⟨k, rfl, q⟩ := hq
  exact wpAny_bind (wpAny_truthy_bool (wpAny_pure q))
theorem op_neO (O : OwnD X.K C "__eq__" f) (hne : PySem.W.findIn X.K (.ref C) "__ne__" = some (some (.builtin "object.__ne__"))) (hm : PySem.W.mroIn X.K C (.type "object") = some true) (F : FnR X.prog X.w X.K X.mg X.base CX n f sp) (hr : Room (n + 1) X.A) (hx : Passes CX X E) :
    OpR X (compareOp .NotEq) (rNeO X.K C sp E) := by
  intro pins s σ H x y v u Q I rx ry h
  obtain ⟨a, t, rfl, ha, hty, hn, hs⟩ := h
  obtain rfl : v = Value.ref a := rx
  obtain ⟨ox, od, J⟩ := inst_of I ha
  obtain ⟨P, Z, hP, _⟩ := kit_of I ry hty
  have one : wpAny (model X.prog X.w) X.A (tryCompare (.ref a) (cmpInfo .NotEq).2.1 u) (fun r s' => ∃ v, r = some v ∧ EP X pins σ Q v s') X.xe s := by
    unfold tryCompare
    refine wpAny_bind (ifBound_B I.kIn J hne PySem.F.slot_object_ne.bind (ne_call (sub1 hr).room.units0 I.kIn J hm O.fi O.fn (thn (run_at (sub1 hr) (us := [.ref a, u]) (vs := [.ref a, y]) F hx I (.cons rfl (.cons ry .nil)) hs) fun z s' hv => ?_)))
    obtain ⟨x, H', I', rz, b, rfl, q⟩ := hv
    obtain rfl := rz
    exact ⟨b, rfl, wpAny_pure ⟨_, rfl, .bl (!b), H', I', rfl, q⟩⟩
  show wpAny (model X.prog X.w) X.A (richCompare .NotEq (.ref a) u) (EP X pins σ Q) X.xe s
  unfold richCompare
  simp only [oneThing_ref]
  refine wpAny_holding (wpAny_bind (wpAny_cRoomFor hr.units0 ?_))
  refine wpAny_bind (J.type.here (wpAny_bind ((Z.ty _ _ I.kIn hP).here ?_)))
  split
  · rename_i q
    have e : PySem.W.subIn X.K t (.ref C) = some false := by
      rcases Bool.or_eq_true_iff.mp hn with e | e
      · rw [beq_iff_eq.mp e] at q; simp at q
      · exact beq_iff_eq.mp e
    refine wpAny_bind ((PySem.W.looks_subIn I.kIn e).here ?_)
    simp only [Bool.false_eq_true, if_false]
    refine wpAny_bind (wpAny_mono one (fun r s' z => ?_) fun _ _ e => e)
    obtain ⟨v, rfl, hq⟩ := z
    exact wpAny_pure hq
  · refine wpAny_bind (wpAny_pure ?_)
    simp only [Bool.false_eq_true, if_false]
    refine wpAny_bind (wpAny_mono one (fun r s' z => ?_) fun _ _ e => e)
    obtain ⟨v, rfl, hq⟩ := z
    exact wpAny_pure hq
end
end KwX

/-! try: body / except (A, B) as n: suite, where the error is kept: behind the suite the error's object is known -/
namespace KwX
open PySem PySem.Spec PySem.Calls PyProof.Rows L2 StX
/-- an error that was caught: its class, its own dict -/
def Caught (cls : Value) (d : Option Addr) (a : Addr) : HO := .ext fun h => ∃ oe vs, h.get? a = some oe ∧ Zc cls d oe ∧ oe.data = .fields vs
theorem caught_ok {P : Program} {w : World} {H : Hp} {h : Heap} {cls : Value} {d : Option Addr} {a : Addr} {oe : Obj} {vs : Array Value} (e : h.get? a = some oe) (z : Zc cls d oe) (f : oe.data = .fields vs) : ObjOk P w H h a (Caught cls d a) :=
  ⟨⟨oe, vs, e, z, f⟩, ⟨oe, e⟩, fun h1 h2 q st => by
    obtain ⟨o1, v1, e1, z1, f1⟩ := q
    exact ⟨o1, v1, st _ e1, z1, f1⟩⟩
section
variable {X : Cx} {pins : List (Addr × Obj)} {σ : L2.St} {H : Hp} {s : Shared}
/-- a pinned object that was not there at the frame's start is tracked from now on -/
theorem track {a : Addr} {o : Obj} {u : HO} (I : Inv X ((a, o) :: pins) σ H s) (h0 : X.s_0.heap.get? a = none) (hc : ∀ y c, X.env.cells.lookup y = some c → c ≠ a) (hp : ∀ p ∈ X.pn ++ pins, p.1 ≠ a) (new : ObjOk X.prog X.w (upd H a u) s.heap a u) :
    Inv X pins σ (upd H a u) s := by
  obtain ⟨ho, hn, hL, hF, hv⟩ := I.pin (a, o) (List.mem_append_right _ List.mem_cons_self)
  have old : ∀ b v, H b = some v → upd H a u b = some v := fun b v q => by
    rw [upd_ne (fun z => by rw [z, show H a = none from hn] at q; cases q)]
    exact q
  refine ⟨I.ok, I.os, I.bare, ⟨I.base.keep, I.base.slot, fun b v q n hx => ?_, I.base.there, fun b xs q => old _ _ (I.base.tups b xs q), fun b v w q => old _ _ (I.base.frzs b v w q), fun b ps q => ?_⟩, I.loc, I.cell, ?_, fun y c q => ?_, fun p q => ?_, fun b v q => ?_, I.len⟩
  · rw [upd_ne (fun z => by rw [z, h0] at q; cases q)]
    exact I.base.free b v q n hx
  · obtain ⟨more, e⟩ := I.base.tbls b ps q
    exact ⟨more, old _ _ e⟩
  · rw [upd_ne (Ne.symm hL)]
    exact I.free
  · rw [upd_ne (hc y c q)]
    exact I.freeC y c q
  · have q' : p ∈ X.pn ++ ((a, o) :: pins) := by
      rcases List.mem_append.mp q with z | z
      · exact List.mem_append_left _ z
      · exact List.mem_append_right _ (List.mem_cons_of_mem _ z)
    obtain ⟨p1, p2, p3⟩ := I.pin p q'
    exact ⟨p1, by rw [upd_ne (hp p q)]; exact p2, p3⟩
  · by_cases e : b = a
    · subst e
      rw [upd_same] at q
      cases q
      exact new
    · rw [upd_ne e] at q
      refine (I.hok b v q).stay (fun _ _ _ z => z) (fun c z => old _ _ z) fun c xs z => old _ _ z
end
/-- what the clause 'except (A, B) as n' wishes of an error of the body -/
def endsKept (D : Ends) (i : Nat) (cls : Value) (d : Option Addr) (a : Addr) : Ends where
  nx := fun σ' H' => H' a = none → D.nx (σ'.set i none) (upd H' a (Caught cls d a))
  rt := fun v H' => H' a = none → D.rt v (upd H' a (Caught cls d a))
  bk := fun σ' H' => H' a = none → D.bk (σ'.set i none) (upd H' a (Caught cls d a))
  ct := fun σ' H' => H' a = none → D.ct (σ'.set i none) (upd H' a (Caught cls d a))
def wKeep (K : PySem.W.Frag) (cs : List Value) (i : Nat) (ts : Addr → Value → Option Addr → TS) (Wout : WX) (D : Ends) : WX := fun cls d σ H =>
  ∃ b, PySem.W.exmAny K cls cs = some b ∧ (b = true → ∀ a, H a = none → ts a cls d (endsKept D i cls d a) (σ.set i (some (.ref a))) H) ∧ (b = false → Wout cls d σ H)
theorem flying_push {B : Heap} {l : List Env} {a : Addr} {Z : Obj → Prop} {h : Heap} (f : HandSPX.FlyingZ B l a Z h) (o : Obj) : HandSPX.FlyingZ B l a Z (h.push o) := by
  obtain ⟨f1, f2, f3, oe, vs, T, oT, ts, e1, z, e2, e3, e4, e5, e6, e7, e8⟩ := f
  refine ⟨fun b x q => Heap.get?_push_of_some _ (f1 b x q), f2, Heap.FunFrames.of_keeps (fun b x q _ => ⟨x, Heap.get?_push_of_some _ q, rfl⟩) f3, oe, vs, T, oT, ts, Heap.get?_push_of_some _ e1, z, e2, e3, e4, e5, Heap.get?_push_of_some _ e6, e7, e8⟩
section
variable {X : Cx} {x1 x2 n : Str} {c1 c2 : Value} {i tk0 : Nat} {body suite : List Stmt} {b₀ : Stmt} {np1 np2 tpos pos pos' : Pos} {tb : WX → TS} {ts : Addr → Value → Option Addr → TS} {Wout : WX}
theorem ps_try_keep (hs : X.stack = X.env :: X.outer) (hf : X.env.frame = some X.env.locals) (hex : X.ex = []) (hN : X.N.Nodup) (hi : X.N[i]? = some n) (hln : X.env.kindOf n = some .local) (hc1 : Names X x1 c1) (hc2 : Names X x2 c2) (tk : Takes X Wout)
    (hb : ∀ (W : WX) (pn : List (Addr × Obj)) (xe : Value → Shared → Prop), Takes (X.tr pn xe) W → PassesOwn (model X.prog X.w) X.A X.env xe → PSs (X.tr pn xe) body (tb W))
    (hsu : ∀ (a : Addr) (oe : Obj) (cls : Value) (d : Option Addr) (pn : List (Addr × Obj)), Zc cls d oe → (∃ vs, oe.data = .fields vs) → PSs (X.suite a ((a, oe) :: pn)) (b₀ :: suite) (ts a cls d)) :
    PS X (.Try body [.ExceptHandler (some (.Tuple [.Name x1 np1, .Name x2 np2] tk0 tpos)) (some n) (b₀ :: suite) pos'] [] [] pos) (fun D σ H => tb (wKeep X.K [c1, c2] i ts Wout D) D σ H) := by
  constructor
  intro pins s σ H D I h
  have ok := I.ok
  have frames : X.A.frames = some (X.env :: X.outer) := ok.frames.trans (by rw [hs])
  have hloc : Loc X.env.scope n := .inl hln
  let clause : List ExceptHandler := [.ExceptHandler (some (.Tuple [.Name x1 np1, .Name x2 np2] tk0 tpos)) (some n) (b₀ :: suite) pos']
  let wish : Value → Shared → Prop := fun e s₁ => wpAny (model X.prog X.w) X.A (noteFrame e X.env) (fun _ s₂ => wpAny (model X.prog X.w) X.A (setFlight e none) (fun _ s₃ => wpAny (model X.prog X.w) X.A (handleBy e X.env clause) (SP X pins D) X.xe s₃) X.xe s₂) X.xe s₁
  have caught : Takes (X.tr (X.pn ++ pins) wish) (wKeep X.K [c1, c2] i ts Wout D) := by
    intro u s' xx
    obtain ⟨a, B, sI, pins', σ', H', cls, d, rfl, J', nb, up, sky, na, os, ag, b, hb1, hyes, hno⟩ := xx
    have J : Inv X pins σ' H' sI := J'.ofTry ok
    have sky' : Sky B (X.env :: X.outer) a (Zc cls d) X.env.locals s'.heap := hs ▸ sky
    show wpAny (model X.prog X.w) X.A (noteFrame (.ref a) X.env) _ _ _
    refine Sky.land Zc.steady frames hf sky' fun h3 fl3 up3 => ?_
    have J3 : Inv X pins σ' H' { s' with heap := h3 } := J.landed nb fl3.1 (up.trans up3) os ag
    obtain ⟨oe3, vs3, he3, hz3, hd3⟩ := fl3.there
    have apart : ∀ {h : Heap} {o : Obj} {vs : Array Value}, h.FunFrames B (X.env :: X.outer) → h.get? a = some o → o.data = .fields vs → a ∉ frs (X.env :: X.outer) := by
      intro h o vs ff e dd hm
      obtain ⟨_, o', e', hnf⟩ := ff.mem hm
      rw [e] at e'
      cases e'
      exact hnf _ dd
    have nfr := apart fl3.2.2.1 he3 hd3
    have nL : a ≠ X.env.locals := by
      intro z
      exact nfr (List.mem_filterMap.mpr ⟨X.env, List.mem_cons_self, by rw [hf, z]⟩)
    have nF : a ∉ X.fs := by
      intro hm
      obtain ⟨e, he, q⟩ := List.mem_filterMap.mp hm
      exact nfr (List.mem_filterMap.mpr ⟨e, List.mem_cons_of_mem _ he, q⟩)
    have Ba : B.get? a = none := fl3.2.1
    have nStk : a ∉ frs X.stack := by rw [hs]; exact nfr
    have sIa : sI.heap.get? a = none := by
      cases q : sI.heap.get? a with
      | none => rfl
      | some o =>
        have z := nb a o q nStk
        rw [Ba] at z
        cases z
    have s0a : X.s_0.heap.get? a = none := by
      cases q : X.s_0.heap.get? a with
      | none => rfl
      | some o =>
        obtain ⟨o', z⟩ := J.base.there a o q (by rw [hex]; simp)
        rw [sIa] at z
        cases z
    have notCell : ∀ y c, X.env.cells.lookup y = some c → c ≠ a := by
      intro y c e z
      obtain ⟨v, o, ho, hd⟩ := J.cell y c e
      rw [z, sIa] at ho
      cases ho
    have notPin : ∀ p ∈ X.pn ++ pins, p.1 ≠ a := by
      intro p hp z
      have q := (J.pin p hp).1
      rw [z, sIa] at q
      cases q
    have S3 := J3.suite he3 hd3 na nL nF
    refine wpAny_handleBy_cons (codeAny_handlers_test ?_) (by intro q; cases q)
    have name : ∀ {y : Str} {c : Value} {np : Pos} {Q : Value → Shared → Prop} {E : Value → Shared → Prop}, Names X y c → Q c { s' with heap := h3 } → wpAny (model X.prog X.w) (X.A.mark (some (.ref a))) (eval (.Name y np) X.env) Q E { s' with heap := h3 } := by
      intro y c np Q E hc q
      obtain ⟨hg, hdbg, hm | ⟨hm, hv, hnn⟩⟩ := hc
      · exact ld_glob (X := X.suite a ((a, oe3) :: (X.pn ++ pins))) S3 hg hm q hdbg
      · exact ld_blt (X := X.suite a ((a, oe3) :: (X.pn ++ pins))) S3 hg hm hv q hnn hdbg
    refine Tuple_ (spliced_more (name hc1 (spliced_more (name hc2 (spliced_none ?_)))))
    refine wpAny_newObj_type ?_
    let tup : Obj := { cls := .type "tuple", data := .seq [c1, c2].toArray }
    have fl4 : HandSPX.FlyingZ B (X.env :: X.outer) a (Zc cls d) (h3.push tup) := flying_push fl3 tup
    have up4 : h3.UpToSlots (h3.push tup) := Heap.UpToSlots.of_keeps fun _ _ q => Heap.get?_push_of_some _ q
    have J4 : Inv X pins σ' H' { s' with heap := h3.push tup } := J3.kept (t' := s'.toks) fun _ _ q => Heap.get?_push_of_some _ q
    have he4 : (h3.push tup).get? a = some oe3 := Heap.get?_push_of_some _ he3
    have LT : PySem.W.Looks (model X.prog X.w) (h3.push tup) (typeOf (.ref a)) cls := fun A Q E s k q => wpAny_typeOf_ref (k _ _ he4) (by rw [hz3.1]; exact q)
    have LM := PySem.W.exm_tup2 (M := model X.prog X.w) (tp := h3.objs.size) J4.kIn LT (Heap.get?_push_size _ rfl) hb1
    refine LM.here ?_
    cases b with
    | true =>
      refine codeAny_handlers_suite_as ?_
      refine HandSPX.lands_againZ fl4 fun h5 fl5 up5 => ?_
      have J5 : Inv X pins σ' H' { s' with heap := h5 } := J.landed nb fl5.1 (((up.trans up3).trans up4).trans up5) os ag
      obtain ⟨oe5, vs5, he5, hz5, hd5⟩ := fl5.there
      have S5 := J5.suite he5 hd5 na nL nF
      refine store_ok (X := X.suite a ((a, oe5) :: (X.pn ++ pins))) (v := .ref a) S5 hN hi hloc rfl (fun s6 S6 => ?_) (.inr hln)
      refine wpAny_mono ((hsu a oe5 cls d (X.pn ++ pins) hz5 ⟨_, hd5⟩).run [] s6 _ H' _ S6 (hyes rfl a na)) (fun f s7 hsp => ?_) (fun _ _ z => False.elim z)
      have last : ∀ {σ7 : L2.St} {H7 : Hp} {Q : Shared → Prop}, Inv (X.suite a ((a, oe5) :: (X.pn ++ pins))) [] σ7 H7 s7 → (H7 a = none → ∀ s8, Inv X pins (σ7.set i none) (upd H7 a (Caught cls d a)) s8 → Q s8) →
          wpAny (model X.prog X.w) X.A (do bindName X.env n .none; unbindBehindTheSuite X.env n pos') (fun _ s8 => Q s8) X.xe s7 := by
        intro σ7 H7 Q S7 hq
        have pa := S7.pin (a, oe5) (List.mem_append_left _ List.mem_cons_self)
        have U : Inv X ((a, oe5) :: pins) σ7 H7 s7 := by
          have U0 : Inv X pins σ7 H7 s7 := S7.unsuite ok
          refine U0.pins_of fun p hp => ?_
          rcases List.mem_cons.mp hp with e | e
          · subst e
            exact pa
          · exact U0.pin p (List.mem_append_right _ e)
        refine gone_ok U hN hi hln fun s8 J8 => hq pa.2.1 s8 ?_
        have p8 := J8.pin (a, oe5) (List.mem_append_right _ List.mem_cons_self)
        exact track J8 s0a notCell notPin (caught_ok p8.1 hz5 hd5)
      have pinA : ∀ {σ7 : L2.St} {H7 : Hp}, Inv (X.suite a ((a, oe5) :: (X.pn ++ pins))) [] σ7 H7 s7 → H7 a = none := fun S7 => (S7.pin (a, oe5) (List.mem_append_left _ List.mem_cons_self)).2.1
      cases f with
      | next =>
        obtain ⟨σ7, H7, S7, q7⟩ := hsp
        exact last S7 fun na s8 J8 => ⟨_, _, J8, q7 na⟩
      | brk =>
        obtain ⟨σ7, H7, S7, q7⟩ := hsp
        exact last S7 fun na s8 J8 => ⟨_, _, J8, q7 na⟩
      | cont =>
        obtain ⟨σ7, H7, S7, q7⟩ := hsp
        exact last S7 fun na s8 J8 => ⟨_, _, J8, q7 na⟩
      | ret u =>
        obtain ⟨v7, σ7, H7, S7, r7, q7⟩ := hsp
        exact last S7 fun na s8 J8 => ⟨_, _, _, J8, r7, q7 na⟩
    | false =>
      show wpAny _ X.A (handleBy (.ref a) X.env []) _ _ _
      refine wpAny_handleBy_nil ?_
      obtain ⟨k1, k2, k3, oe, vs, T, oT, ts', he, hz, hd, h1, hr⟩ := id fl4
      unfold PySem.passOn
      refine wpAny_bind (wpAny_field he hd h1 ?_)
      rw [if_neg (by simp)]
      have fin : wpAny (model X.prog X.w) X.A (setFlight (.ref a) X.env.frame) (fun _ s5 => wpAny (model X.prog X.w) X.A (throw (.ref a) : Sem Flow) (SP X pins D) X.xe s5) X.xe { s' with heap := h3.push tup } := by
        rw [hf]
        refine HandSPX.setFlight_upZ fl4 fun h5 hh5 up5 => wpAny_throw (tk _ _ ?_)
        exact ⟨a, B, sI, pins, σ', H', cls, d, rfl, J, nb, ((up.trans up3).trans up4).trans up5, .inr (.inr (by rw [hs]; exact hh5)), na, os, ag, hno rfl⟩
      first
        | exact wpAny_bind fin
        | exact wpAny_bind (wpAny_pure (wpAny_bind fin))
  refine wpAny_Try_except (wpAny_mono ((hb (wKeep X.K [c1, c2] i ts Wout D) (X.pn ++ pins) wish caught PassesOwn.looking).run [] s σ H D (I.toTry _) h) (fun f s1 hsp => ?_) (fun e s1 he => he))
  cases f with
  | next =>
    obtain ⟨σ', H', J', q⟩ := hsp
    exact wpAny_execs_nil ⟨σ', H', J'.ofTry ok, q⟩
  | brk =>
    obtain ⟨σ', H', J', q⟩ := hsp
    exact ⟨σ', H', J'.ofTry ok, q⟩
  | cont =>
    obtain ⟨σ', H', J', q⟩ := hsp
    exact ⟨σ', H', J'.ofTry ok, q⟩
  | ret u =>
    obtain ⟨v, σ', H', J', r, q⟩ := hsp
    exact ⟨v, σ', H', J'.ofTry ok, r, q⟩
end
end KwX

/-! sets of texts: set(list of texts), sorted(set) -/
namespace TsX
open PySem PySem.Spec PyProof.Rows L2 PySem.Froz
section
variable {P : Program} {w : World} {A : Around} {E : Value → Shared → Prop} {s : Shared} {h h' : Heap} {a : Addr} {l : List Str}
/-- the set of the texts l stands at a; it can be walked -/
def Txt (P : Program) (w : World) (h : Heap) (a : Addr) (l : List Str) : Prop :=
  ∃ D : SD, h.get? a = some (sObj "set" D) ∧ TxOk P w D l ∧ Ris D.2.2.place.toList ∧ (w.params.followText "set-order" = true ∨ D.2.2.led = true)
theorem Txt.at (x : Txt P w h a l) (k : ∀ o, h.get? a = some o → h'.get? a = some o) : Txt P w h' a l := by
  obtain ⟨D, e, r⟩ := x
  exact ⟨D, k _ e, r⟩
theorem tail_walk {ep : Nat} {es : Array (Int × Value)} {t : SetTable} {b : Bool} (r : Ris t.place.toList) : Ris (tailTx ep es t b).2.2.place.toList ∧ (tailTx ep es t b).2.2.led = t.led := by
  unfold tailTx
  split
  · exact ⟨relayAll_ris t es _, relayAll_led t es _⟩
  · exact ⟨r, rfl⟩
theorem add_walk {k : Int} {v : Value} {D : SD} (r : Ris D.2.2.place.toList) : Ris (addTx k v D).2.2.place.toList ∧ (addTx k v D).2.2.led = D.2.2.led := by
  have r1 := layNew_ris D.2.2 D.1 k v r
  have l1 := layNew_led D.2.2 D.1 k v
  unfold addTx
  by_cases c : (layNew D.2.2 D.1 k v).2.1.plain = true
  · rw [if_pos c]
    obtain ⟨x, y⟩ := tail_walk (ep := D.2.1) (es := (layNew D.2.2 D.1 k v).1) (b := (layNew D.2.2 D.1 k v).2.2.1) (t := { (layNew D.2.2 D.1 k v).2.1 with plain := false }) r1
    exact ⟨x, y.trans l1⟩
  · rw [if_neg c]
    obtain ⟨x, y⟩ := tail_walk (ep := D.2.1) (es := (layNew D.2.2 D.1 k v).1) (b := (layNew D.2.2 D.1 k v).2.2.1) r1
    exact ⟨x, y.trans l1⟩
/-- the members, the new one among them -/
def withT (l : List Str) (k : Str) : List Str := if k ∈ l then l else k :: l
theorem put_text {k : Str} {u : Tok} {Q : Bool → Shared → Prop} (x : Txt P w s.heap a l) (room : l.length + 1 < scanBound)
    (hQ : ∀ h' b, Heap.SameBut a s.heap h' → Txt P w h' a (withT l k) → Q b { s with heap := h' }) : wpAny (model P w) A (setAddHashed a (.str k u) (hashStr w k)) Q E s := by
  obtain ⟨D, ho, ok, ris, led⟩ := x
  by_cases hk : k ∈ l
  · have same : withT l k = l := if_pos hk
    rw [same] at hQ
    obtain ⟨es, ep, t⟩ := D
    have few : es.size < scanBound := by
      have e : es.size = l.length := ok.sz
      omega
    obtain ⟨e, he, hit⟩ := (ok.mem k).mp hk
    have there : ∃ j, List.findIdx? (fun e => (strKind P w).is k e.2) es.toList = some j := by
      cases q : List.findIdx? (fun e => (strKind P w).is k e.2) es.toList with
      | some j => exact ⟨j, rfl⟩
      | none =>
        have z := List.findIdx?_eq_none_iff.mp q e he
        rw [hit] at z
        cases z
    obtain ⟨j, hj⟩ := there
    unfold setAddHashed setAddHashedIn
    refine wpAny_holding (wpAny_bind (wpAny_setState_of ho rfl ok.fit ?_))
    dsimp only
    rw [byScan_of rfl few ok.el]
    simp only [↓reduceIte]
    unfold setAddByScan
    refine wpAny_bind (wpAny_bind (wpAny_rule (wpAny_bind (wpAny_setScan_of (knd := strKind P w) (k := k) (is_str k u) ho rfl ok.fit ok.el ?_))))
    rw [hj]
    exact wpAny_pure (wpAny_pure (hQ s.heap _ (Heap.SameBut.refl a s.heap) ⟨_, ho, ok, ris, led⟩))
  · have more : withT l k = k :: l := if_neg hk
    rw [more] at hQ
    refine add_x ho ok hk room (hQ _ _ (Heap.SameBut.update s.heap a _) ?_)
    obtain ⟨r1, l1⟩ := add_walk (k := hashStr w k) (v := .str k u) ris
    exact ⟨_, get_upd _ ho rfl, add_ok u ok, r1, led.imp id fun z => by rw [l1]; exact z⟩
/-- the members behind the texts xs, put in one by one -/
def allT (xs : List Str) : List Str := xs.foldl withT []
theorem withT_mem {l : List Str} {k x : Str} : x ∈ withT l k ↔ x ∈ l ∨ x = k := by
  unfold withT
  split
  · rename_i q
    exact ⟨.inl, fun z => z.elim id fun e => e ▸ q⟩
  · rw [List.mem_cons]
    exact Or.comm
theorem withT_nodup {l : List Str} {k : Str} (h : l.Nodup) : (withT l k).Nodup := by
  unfold withT
  split
  · exact h
  · rename_i q
    exact List.nodup_cons.mpr ⟨q, h⟩
theorem withT_len {l : List Str} {k : Str} : (withT l k).length ≤ l.length + 1 := by
  unfold withT
  split
  · omega
  · exact Nat.le_refl _
theorem fold_mem : ∀ (xs : List Str) (l : List Str) (x : Str), x ∈ xs.foldl withT l ↔ x ∈ l ∨ x ∈ xs
  | [], l, x => by simp
  | y :: xs, l, x => by
    rw [List.foldl_cons, fold_mem xs, withT_mem, List.mem_cons]
    exact or_assoc
theorem fold_nodup : ∀ (xs : List Str) (l : List Str), l.Nodup → (xs.foldl withT l).Nodup
  | [], _, h => h
  | y :: xs, l, h => fold_nodup xs _ (withT_nodup h)
theorem fold_len : ∀ (xs : List Str) (l : List Str), (xs.foldl withT l).length ≤ l.length + xs.length
  | [], l => Nat.le_refl _
  | y :: xs, l => by
    have a := fold_len xs (withT l y)
    have b := withT_len (l := l) (k := y)
    rw [List.foldl_cons, List.length_cons]
    omega
theorem allT_mem {xs : List Str} {x : Str} : x ∈ allT xs ↔ x ∈ xs := by
  unfold allT
  rw [fold_mem]
  simp
theorem allT_nodup (xs : List Str) : (allT xs).Nodup := fold_nodup xs [] List.nodup_nil
theorem allT_len (xs : List Str) : (allT xs).length ≤ xs.length := by
  have h := fold_len xs []
  simpa [allT] using h
theorem allT_snoc {xs : List Str} {i : Nat} {z : Str} (h : xs[i]? = some z) : allT (xs.take (i + 1)) = withT (allT (xs.take i)) z := by
  unfold allT
  rw [List.take_add_one, h, List.foldl_append]
  rfl
/-- the loop that puts what is walked into the set -/
theorem put_all {I : Addr} {fp wr : List Addr} {G : Array GenState → Array GenState → Prop} {n : Nat} {Pv : Nat → Value → Prop} {St : Nat → Shared → Prop} {R : Result → Shared → Prop}
    (W : WalksS P w A.in1 I fp wr G n Pv St) (S : Addr) (apart : S ∉ fp) (xs : List Str) (hn : n = xs.length) (few : xs.length + 1 < scanBound) (val : ∀ i v, Pv i v → ∃ k t, xs[i]? = some k ∧ v = .str k t) :
    ∀ (left i : Nat) (s : Shared), n - i = left → i ≤ n → St i s → Txt P w s.heap S (allT (xs.take i)) →
      (∀ s', Moved (S :: wr) G s s' → Txt P w s'.heap S (allT xs) → R (.ok (.ret .none)) s') → codeAny (model P w) A (.builtin "set.update.loop" ⟨[.ref S, .ref I], []⟩) R s := by
  have nw : S ∉ wr := fun z => apart (W.sub _ z)
  have wider : ∀ b ∈ wr, b ∈ S :: wr := fun b z => List.mem_cons_of_mem _ z
  intro left
  induction left with
  | zero =>
    intro i s hl hi hst hS hR
    have all : xs.take i = xs := List.take_of_length_le (by omega)
    have top : i = n := by omega
    subst top
    rw [all] at hS
    refine codeAny_builtin F.entry_set_update_loop ?_
    rw [Around.under_plainId F.plain_set_update_loop _]
    show wpAny _ A.in1 (pyNext (.ref I) >>= _) _ _ s
    refine wpAny_bind (W.done s _ _ hst fun s' hm => ?_)
    show wpAny _ A.in1 (ret Value.none) _ _ s'
    exact wpAny_pure (hR s' (hm.mono wider) (hS.at fun o e => hm.heap S o nw e))
  | succ left ih =>
    intro i s hl hi hst hS hR
    have lt : i < n := by omega
    refine codeAny_builtin F.entry_set_update_loop ?_
    rw [Around.under_plainId F.plain_set_update_loop _]
    show wpAny _ A.in1 (pyNext (.ref I) >>= _) _ _ s
    refine wpAny_bind (W.item i s _ _ lt hst fun v s1 hv st1 hm => ?_)
    obtain ⟨z, t, hz, rfl⟩ := val i v hv
    have S1 : Txt P w s1.heap S (allT (xs.take i)) := hS.at fun o e => hm.heap S o nw e
    show wpAny _ A.in1 (holding [Value.str z t] (setAdd S (.str z t)) >>= _) _ _ s1
    refine wpAny_bind (wpAny_holding ?_)
    unfold setAdd
    refine wpAny_holding (wpAny_bind ((strKind P w).pyHash (k := z) (is_str z t) ?_))
    have room : (allT (xs.take i)).length + 1 < scanBound := by
      have q := allT_len (xs.take i)
      have q2 : (xs.take i).length ≤ xs.length := by rw [List.length_take]; omega
      omega
    refine put_text (s := { s1 with toks := s1.toks + 1 }) S1 room fun h' b sb S2 => ?_
    rw [← allT_snoc hz] at S2
    refine wpAny_pure ⟨plainId_quiet F.plain_set_update_loop _, ih (i + 1) _ (by omega) lt (W.frame _ s1 _ _ st1 (Nat.le_succ _) fun b hb o e => ?_) S2 fun s2 hm2 hS2 => ?_⟩
    · rw [sb.2 b fun z => apart (by rw [← z]; exact hb)]
      exact e
    · refine hR s2 (Moved.trans W.gtrans ((hm.mono wider).then_heap (Nat.le_succ _) fun b o hb e => ?_) hm2) hS2
      rw [sb.2 b fun z => hb (by rw [z]; exact List.mem_cons_self)]
      exact e
end
end TsX

namespace TsX
open PySem PySem.Spec PyProof.Rows L2 PySem.Froz
abbrev newSet (w : World) : Obj := { cls := .type "set", dict := none, data := .set #[] 0 (.fresh 0 0 (!w.params.followText "set-order")) }
section
variable {P : Program} {w : World} {A : Around} {E : Value → Shared → Prop} {s : Shared} {h h' : Heap} {a : Addr} {l : List Str}
theorem new_txt (e : h.get? a = some (newSet w)) : Txt P w h a [] := by
  refine ⟨(#[], 0, .fresh 0 0 (!w.params.followText "set-order")), e, TxOk.nil (by rfl), List.Pairwise.nil, ?_⟩
  show _ ∨ (!w.params.followText "set-order") = true
  cases w.params.followText "set-order" with
  | true => exact .inl rfl
  | false => exact .inr rfl
theorem strs_get : ∀ {us : List Value} {xs : List Str} (i : Nat) (v : Value), StrsAre us xs → us[i]? = some v → ∃ k t, xs[i]? = some k ∧ v = .str k t
  | _, _, _, _, .nil, e => by simp at e
  | _, _, 0, v, .cons y t r, e => by
    simp at e
    exact ⟨y, t, rfl, e.symm⟩
  | _, _, i + 1, v, .cons y t r, e => by
    obtain ⟨k, t', e1, e2⟩ := strs_get i v r (by simpa using e)
    exact ⟨k, t', by simpa using e1, e2⟩
theorem strs_size : ∀ {us : List Value} {xs : List Str}, StrsAre us xs → us.length = xs.length
  | _, _, .nil => rfl
  | _, _, .cons y t r => congrArg Nat.succ (strs_size r)
set_option maxHeartbeats 8000000 in
/-- set(xs), a list of texts -/
theorem set_list {p : Addr} {items : Array Value} (xs : List Str) {Q : Value → Shared → Prop} (hh : A.handled = none) (hl : s.heap.IsList p items) (hit : StrsAre items.toList xs) (few : xs.length + 1 < scanBound)
    (h : ∀ (h' : Heap) (tk : Nat), Txt P w h' s.heap.objs.size (allT xs) → (∀ b o, s.heap.get? b = some o → h'.get? b = some o) → Q (.ref s.heap.objs.size) { s with heap := h', toks := tk }) :
    wpAny (model P w) A (call (.type "set") [.ref p]) Q E s := by
  have many : items.size = xs.length := by
    rw [← Array.length_toList]
    exact strs_size hit
  have made := F.called_set.made
  have under := F.called_set.sub
  obtain ⟨c, tl, order⟩ := F.called_set.mro
  apply wpAny_call
  apply codeAny_of_tree
  show wpAny _ _ (callAny (.type "set") _) _ _ _
  refine wpAny_pure ⟨Code.quiet_builtin _ (by decide +kernel), codeAny_builtin F.entry_type_call ?_⟩
  rw [Around.under_plain (weight_type_call_type "set" [.ref p] []) rfl]
  have k1 := F.called_set.notType
  have k2 := F.called_set.canCreate
  have k3 := F.typeCall_set_1 (.ref p)
  repeat (any_goals (first | assumption | wp_step))
  refine codeAny_mono (code_set_led1 (.ref p) (E := E) (Q₁ := fun obj s₁ => obj = .ref s.heap.objs.size ∧ s₁ = { s with heap := s.heap.push (newSet w) }) ⟨rfl, rfl⟩) fun r s1 hr => ?_
  cases r with
  | error e => exact hr
  | ok fl =>
    cases fl with
    | next => exact hr.elim
    | brk => exact hr.elim
    | cont => exact hr.elim
    | ret obj =>
      obtain ⟨rfl, rfl⟩ := hr
      have at0 : (s.heap.push (newSet w)).get? s.heap.objs.size = some (newSet w) := Heap.get?_push_size _ rfl
      have ty0 : Shared.TypeIs { s with heap := s.heap.push (newSet w) } (.ref s.heap.objs.size) "set" := ⟨_, at0, rfl⟩
      have look := F.called_set.init.lookup
      have bind := F.called_set.init.bind (.ref s.heap.objs.size)
      repeat (any_goals (first | assumption | wp_step))
      refine codeAny_mono (codeAny_call_builtin (R := wants (fun r s₂ => r = .none ∧ ∃ h' tk, s₂ = { s with heap := h', toks := tk } ∧ Txt P w h' s.heap.objs.size (allT xs) ∧
          (∀ b o, s.heap.get? b = some o → h'.get? b = some o)) E) F.called_set.init.plain F.entry_set_init (check_set_init_1 ty0 ?_)) fun r2 s2 hr2 => ?_
      · obtain ⟨⟨ocls, odict, odata, oslots⟩, hol, hcl, nl, hdl⟩ := hl
        dsimp only at hcl hdl
        subst hcl hdl
        have kept : (s.heap.push (newSet w)).get? p = some { cls := .type "list", dict := odict, data := .seq items nl, slots := oslots } := Heap.get?_push_of_some _ hol
        have isl : (s.heap.push (newSet w)).IsList p items := ⟨_, kept, rfl, nl, rfl⟩
        have j1 := F.sub_list_set
        have j2 := F.sub_list_frozenset
        have j3 : (Value.type "list" == Value.type "dict") = false := by decide
        unfold Builtin.«set.__init__» noKeywords Builtin.Frozenset.updateFrom
        generalize hPI : pyIter = PI
        wp_walk
        subst hPI
        refine wpAny_pyIter_list isl ?_
        refine wpAny_bind (wpAny_runValue ?_)
        have low : p < s.heap.objs.size := Heap.lt_size hol
        have quiet : A.in1.in1.in1.handled = none := by simp [hh]
        have grown : (s.heap.push (newSet w)).objs.size = s.heap.objs.size + 1 := Heap.size_push ..
        have ne1 : p ≠ (s.heap.push (newSet w)).objs.size := by
          rw [grown]
          exact Nat.ne_of_lt (Nat.lt_succ_of_lt low)
        have ne2 : s.heap.objs.size ∉ [(s.heap.push (newSet w)).objs.size, p] := by
          rw [grown]
          simp only [List.mem_cons, List.not_mem_nil, or_false, not_or]
          exact ⟨Nat.ne_of_lt (Nat.lt_succ_self _), Nat.ne_of_gt low⟩
        refine put_all ((Walks.list quiet _ p ne1 items).toS) s.heap.objs.size ne2 xs many few (fun i v hv => strs_get i v hit (by rw [Array.getElem?_toList]; exact hv)) (items.size - 0) 0 _ (by omega) (Nat.zero_le _)
          ⟨⟨_, Heap.get?_push_size _ rfl, rfl, rfl⟩, isl.push _⟩ ?_ ?_
        · exact new_txt (Heap.get?_push_of_some _ at0)
        · intro s' hm hS
          obtain ⟨h', g2, d', tk', os'⟩ := s'
          have e1 : g2 = s.gens := hm.gens
          have e2 : d' = s.drawn := hm.drawn
          have e3 : os' = s.os := hm.os
          subst e1 e2 e3
          show wpAny _ _ _ _ _ _
          refine wpAny_pure ?_
          show wpAny _ _ (ret Value.none) _ _ _
          refine wpAny_pure ⟨rfl, h', tk', rfl, hS, fun b o e => ?_⟩
          have lt : b < s.heap.objs.size := Heap.lt_size e
          refine hm.heap b o ?_ (Heap.get?_push_of_some _ (Heap.get?_push_of_some _ e))
          simp only [List.mem_cons, List.not_mem_nil, or_false, not_or]
          refine ⟨Nat.ne_of_lt lt, ?_⟩
          rw [grown]
          exact Nat.ne_of_lt (Nat.lt_succ_of_lt lt)
      · cases r2 with
        | error e => exact hr2
        | ok fl2 =>
          cases fl2 with
          | ret r =>
            obtain ⟨rfl, h', tk, rfl, hS, hk⟩ := hr2
            repeat (any_goals (first | assumption | wp_step))
            exact h _ _ hS hk
          | _ => exact hr2.elim
theorem perm_sub : ∀ (l ks : List Str), l.Nodup → (∀ k ∈ l, k ∈ ks) → ks.length = l.length → ks.Perm l
  | [], ks, _, _, e => by
    have z := List.length_eq_zero_iff.mp e
    rw [z]
  | x :: r, ks, hn, sub, e => by
    obtain ⟨n1, n2⟩ := List.nodup_cons.mp hn
    have hx := sub x List.mem_cons_self
    refine (List.perm_cons_erase hx).trans ((perm_sub r (ks.erase x) n2 (fun k hk => ?_) ?_).cons x)
    · have ne : k ≠ x := fun z => n1 (z ▸ hk)
      exact (List.mem_erase_of_ne ne).mpr (sub k (List.mem_cons_of_mem _ hk))
    · rw [List.length_erase_of_mem hx, e, List.length_cons, Nat.add_sub_cancel]
theorem txt_strs {D : SD} (ok : TxOk P w D l) (hn : l.Nodup) : ∀ (vs : List Value), vs.Perm (D.1.toList.map (·.2)) → ∃ ks, StrsAre vs ks ∧ ks.Perm l := by
  -- the members, as texts
  have all : ∀ v ∈ D.1.toList.map (·.2), ∃ k t, v = .str k t ∧ k ∈ l := by
    intro v hv
    obtain ⟨e, he, q⟩ := List.mem_map.mp hv
    obtain ⟨⟨k, h1, _⟩, _⟩ := ok.el e he
    obtain ⟨t, ht⟩ := Value.isStrOf_shape (x := k) (v := e.2) h1
    exact ⟨k, t, by rw [← q, ht], (ok.mem k).mpr ⟨e, he, h1⟩⟩
  have text : ∀ (vs : List Value), (∀ v ∈ vs, ∃ k t, v = .str k t ∧ k ∈ l) → ∃ ks, StrsAre vs ks ∧ ks.length = vs.length ∧ ∀ k, k ∈ ks ↔ ∃ t, Value.str k t ∈ vs := by
    intro vs
    induction vs with
    | nil => exact fun _ => ⟨[], .nil, rfl, fun k => by simp⟩
    | cons v vs ih =>
      intro hv
      obtain ⟨k, t, rfl, _⟩ := hv v List.mem_cons_self
      obtain ⟨ks, h1, h2, h3⟩ := ih fun u hu => hv u (List.mem_cons_of_mem _ hu)
      refine ⟨k :: ks, .cons k t h1, by rw [List.length_cons, List.length_cons, h2], fun j => ?_⟩
      rw [List.mem_cons, h3]
      constructor
      · rintro (e | ⟨t', e⟩)
        · exact ⟨t, by rw [e]; exact List.mem_cons_self⟩
        · exact ⟨t', List.mem_cons_of_mem _ e⟩
      · rintro ⟨t', e⟩
        rcases List.mem_cons.mp e with e | e
        · injection e with e _
          exact .inl e
        · exact .inr ⟨t', e⟩
  intro vs pm
  obtain ⟨ks, h1, h2, h3⟩ := text vs fun v hv => all v (pm.mem_iff.mp hv)
  refine ⟨ks, h1, ?_⟩
  have len : ks.length = l.length := by
    rw [h2, pm.length_eq, List.length_map, Array.length_toList]
    exact ok.sz
  have sub : ∀ k ∈ l, k ∈ ks := by
    intro k hk
    obtain ⟨e, he, hi⟩ := (ok.mem k).mp hk
    obtain ⟨t, ht⟩ := Value.isStrOf_shape (x := k) (v := e.2) hi
    exact (h3 k).mpr ⟨t, pm.mem_iff.mpr (List.mem_map.mpr ⟨e, he, ht⟩)⟩
  exact perm_sub l ks hn sub len
/-- sorted(s), a set of texts with fewer than 64 members -/
theorem sorted_txt {Q : Value → Shared → Prop} (x : Txt P w s.heap a l) (hn : l.Nodup) (hh : A.handled = none) (h64 : l.length < 64)
    (hQ : ∀ s' p (out : Array Value) (c : Nat) (ys : List Str), (∀ b o, s.heap.get? b = some o → s'.heap.get? b = some o) → s'.gens = s.gens → s'.os = s.os → s.heap.objs.size ≤ p →
      s'.heap.get? p = some (seqObj "list" out c) → StrsAre out.toList ys → ys.Perm l → sortedS ys = true → Q (.ref p) s') :
    wpAny (model P w) A (call (.builtin "sorted") [.ref a]) Q E s := by
  obtain ⟨⟨es, ep, t⟩, ho, ok, ris, led⟩ := x
  have few : es.size < scanBound := by
    have e : es.size = l.length := ok.sz
    have z : scanBound = 4096 := by first | rfl | (unfold scanBound; rfl)
    omega
  refine Calls.call_function_entry kind_sorted plain_sorted entry_sorted (args_sorted1 _) ?_
  unfold Builtin.«sorted»
  refine wpAny_bind (m := checkCount "sorted" 1 1 _) (wpAny_pure ?_)
  refine wpAny_bind (collect_set (A := A.in1) hh ⟨_, ho, rfl, rfl⟩ ok.fit few ris led fun s1 vs k1 hz g1 o1 pm => ?_)
  obtain ⟨ks, hS, pk⟩ := txt_strs ok hn vs pm
  have len : vs.length = l.length := (strs_size hS).trans pk.length_eq
  refine wpAny_bind (wpAny_newList ?_ (by rw [len, sizeLine_eq]; omega))
  have at1 : (s1.heap.push (seqObj "list" vs.toArray 0)).get? s1.heap.objs.size = some (seqObj "list" vs.toArray 0) := Heap.get?_push_size _ rfl
  refine wpAny_bind (wpAny_holding (wpAny_call_entry slot_list_sort ⟨_, at1, rfl⟩ entry_list_sort
    (list_sort_treeK strKind_oneLt at1 hS.keysOf (fun v₁ v₂ rest e => keyKind_strs (by rw [← e]; exact hS)) (by rw [len]; exact h64) fun st' hp hs => ⟨_, rfl, ?_⟩) (args_list_sort _)))
  obtain ⟨ys, q1, q2, q3⟩ := sorted_out_str hS hp hs
  obtain ⟨c, hc⟩ := sortedHeap_at (vs := vs) (out := (arrOf st').map (·.2)) at1
  refine wpAny_pure ⟨_, rfl, hQ _ s1.heap.objs.size _ c ys (fun b u e => ?_) g1 o1 hz hc q1 (q2.trans pk) q3⟩
  have q := k1 b u e
  have lt := Heap.lt_size q
  show (sortedHeap (s1.heap.push (seqObj "list" vs.toArray 0)) s1.heap.objs.size vs _).get? b = some u
  rw [sortedHeap_old (Nat.ne_of_lt lt) (by rw [size_push']; exact Nat.lt_succ_of_lt lt)]
  exact Heap.get?_push_of_some _ q
end
/-! ### over the layer -/
def SetT (P : Program) (w : World) (a : Addr) (l : List Str) : HO := .ext fun h => Txt P w h a l
theorem setT_ok {P : Program} {w : World} {H : Hp} {h : Heap} {a : Addr} {l : List Str} (x : Txt P w h a l) : ObjOk P w H h a (SetT P w a l) := by
  refine ⟨x, ?_, fun h1 h2 x k => Txt.at x k⟩
  obtain ⟨D, e, _⟩ := x
  exact ⟨_, e⟩
section
variable {X : Cx}
def rSetT (X : Cx) : List V → Hp → VK → Prop := fun xs H Q => ∃ (p : Addr) (ks : List Str), xs = [.ref p] ∧ SqL X.K H p (ks.map V.str) ∧ ks.length < 1000 ∧ ∀ a, H a = none → Q (.ref a) (upd H a (SetT X.prog X.w a (allT ks)))
theorem call_setT (hc : X.calm = true) : CallR X (.type "set") (rSetT X) := by
  intro pins s σ H xs us Q I r h
  obtain ⟨p, ks, rfl, hs, h64, q⟩ := h
  obtain ⟨its, rv, hl, _⟩ := I.list hs
  rw [Vals.ref1 r]
  have z : scanBound = 4096 := by first | rfl | (unfold scanBound; rfl)
  refine set_list ks (I.ok.hd hc) hl.isList rv.strs (by omega) fun h' tk hx hk => ?_
  exact ⟨.ref _, upd H s.heap.objs.size (SetT X.prog X.w s.heap.objs.size (allT ks)), I.laid (t' := tk) hk (Nat.le_refl _) (setT_ok hx), rfl, q _ (I.hok.fresh (Nat.le_refl _))⟩
def rSortedT (X : Cx) : List V → Hp → VK → Prop := fun xs H Q => ∃ (a : Addr) (l : List Str), xs = [.ref a] ∧ H a = some (SetT X.prog X.w a l) ∧ l.Nodup ∧ l.length < 64 ∧ ∀ (ys : List Str) (p : Addr), ys.Perm l → sortedS ys = true → H p = none → Q (.ref p) (upd H p (.lst (ys.map V.str)))
theorem call_sortedT (hc : X.calm = true) : CallR X (.builtin "sorted") (rSortedT X) := by
  intro pins s σ H xs us Q I r h
  obtain ⟨a, l, rfl, ha, hn, h64, q⟩ := h
  have x : Txt X.prog X.w s.heap a l := (I.hok a _ ha).1
  rw [Vals.ref1 r]
  refine sorted_txt x hn (I.ok.hd hc) h64 fun s' p out c ys k g o hp hg hi hm hs => ?_
  have hlen : (ys.map V.str).length ≤ sizeLine := by rw [List.length_map, hm.length_eq, sizeLine_eq]; omega
  have hn : H p = none := I.hok.fresh hp
  have J : Inv X pins σ (upd H p (.lst (ys.map V.str))) { s with heap := s'.heap, gens := s'.gens, drawn := s'.drawn, toks := s'.toks } :=
    I.call (ch := []) (Un.laid k hp hn) (I.hok.laid k hp ⟨hlen, out.toList, c, vals_of_strs hi, hg⟩) (by rw [g]; exact I.bare) (fun _ z => nomatch z)
  have e : s' = { s with heap := s'.heap, gens := s'.gens, drawn := s'.drawn, toks := s'.toks } := by
    cases s'
    cases s
    cases o
    rfl
  rw [e]
  exact ⟨.ref p, _, J, rfl, q ys p hm hs hn⟩
end
end TsX

/-! own + - of one class, own * with an int, own - of one; == of two dicts of ints; o.m(k = v) -/
namespace KwX
open PySem PySem.Spec PySem.Calls PyProof.Rows L2 StX
section
variable {X : Cx} {CX : CXT} {n : Nat} {f C : Addr} {sp : Sp} {E : XK}
/-- o + p, both of C -/
def rBinO (C : Addr) (sp : Sp) (E : XK) : R2 := fun x y H Q => ∃ a b, x = .ref a ∧ y = .ref b ∧ InsAt H a C ∧ InsAt H b C ∧ sp [.ref a, .ref b] H (fun v H' => ∃ r, v = .ref r ∧ Q (.ref r) H') E
theorem op_binO {op : Operator} (O : OwnD X.K C (PySem.dunder op.info.2) f) (hc : PySem.W.selfFirst X.K C = true) (F : FnR X.prog X.w X.K X.mg X.base CX n f sp) (hr : Room n X.A) (hx : Passes CX X E) : OpR X (binaryOp op) (rBinO C sp E) := by
  intro pins s σ H x y v u Q I rx ry h
  obtain ⟨a, b, rfl, rfl, ha, hb, hs⟩ := h
  obtain rfl : v = Value.ref a := rx
  obtain rfl : u = Value.ref b := ry
  obtain ⟨ox, od, J⟩ := inst_of I ha
  obtain ⟨oy, oe, J2⟩ := inst_of I hb
  obtain ⟨m, hF⟩ := I.fr
  refine PySem.W.binop_K hF I.ok.mod.kin J J2.type hc O.fi O.fn (thn (run_at (sub0 hr) (us := [.ref a, .ref b]) (vs := [.ref a, .ref b]) F hx I (.cons rfl (.cons rfl .nil)) hs) fun z s' hv => ?_)
  obtain ⟨x, H', I', rz, r, rfl, q⟩ := hv
  obtain rfl : z = Value.ref r := rz
  exact ⟨.ref r, H', I', rfl, q⟩
/-- o * i, i an int -/
def rMulO (C : Addr) (sp : Sp) (E : XK) : R2 := fun x y H Q => ∃ a i, x = .ref a ∧ y = .int i ∧ InsAt H a C ∧ sp [.ref a, .int i] H (fun v H' => ∃ r, v = .ref r ∧ Q (.ref r) H') E
theorem op_mulO {op : Operator} {fo ro : Option Value} (O : OwnD X.K C (PySem.dunder op.info.2) f) (hc : PySem.W.selfFirst X.K C = true) (hr0 : PySem.W.findIn X.K (.ref C) (PySem.dunderR op.info.2) = some none)
    (h1 : PySem.W.findIn X.K (.type "int") (PySem.dunder op.info.2) = some fo) (h2 : PySem.W.findIn X.K (.type "int") (PySem.dunderR op.info.2) = some ro) (hsub : PySem.W.subIn X.K (.type "int") (.ref C) = some false)
    (F : FnR X.prog X.w X.K X.mg X.base CX n f sp) (hr : Room n X.A) (hx : Passes CX X E) : OpR X (binaryOp op) (rMulO C sp E) := by
  intro pins s σ H x y v u Q I rx ry h
  obtain ⟨a, i, rfl, rfl, ha, hs⟩ := h
  obtain rfl : v = Value.ref a := rx
  obtain ⟨t, rfl⟩ := ry
  obtain ⟨ox, od, J⟩ := inst_of I ha
  obtain ⟨m, hF⟩ := I.fr
  refine PySem.W.ksp_binT hF I.ok.mod.kin J rfl hc O.fi O.fn hr0 (.inl rfl) h1 h2 hsub (thn (run_at (sub0 hr) (us := [.ref a, .int i t]) (vs := [.ref a, .int i]) F hx I (.cons rfl (.cons ⟨t, rfl⟩ .nil)) hs) fun z s' hv => ?_)
  obtain ⟨x, H', I', rz, r, rfl, q⟩ := hv
  obtain rfl : z = Value.ref r := rz
  exact ⟨.ref r, H', I', rfl, q⟩
/-- -o -/
def rNegO (C : Addr) (sp : Sp) (E : XK) : V → Hp → VK → Prop := fun x H Q => ∃ a, x = .ref a ∧ InsAt H a C ∧ sp [.ref a] H Q E
theorem un_negO (O : OwnD X.K C "__neg__" f) (F : FnR X.prog X.w X.K X.mg X.base CX n f sp) (hr : Room n X.A) (hx : Passes CX X E) : UnR X (unaryOp .USub) (rNegO C sp E) := by
  intro pins s σ H x v Q I rx h
  obtain ⟨a, rfl, ha, hs⟩ := h
  obtain rfl : v = Value.ref a := rx
  obtain ⟨ox, od, J⟩ := inst_of I ha
  obtain ⟨m, hF⟩ := I.fr
  exact PySem.W.ksp_neg hF I.ok.mod.kin J O.fi O.fn (run_at (sub0 hr) (us := [.ref a]) (vs := [.ref a]) F hx I (.cons rfl .nil) hs)
/-- bool(o) -/
def rBoolO (C : Addr) (sp : Sp) (E : XK) : List V → Hp → VK → Prop := fun xs H Q => ∃ a, xs = [.ref a] ∧ InsAt H a C ∧ sp [.ref a] H (fun v H' => ∃ b, v = .bl b ∧ Q (.bl b) H') E

/-! == of dicts of ints -/
def hitI (ls : List (Key × V)) (p : Key × V) : Bool := match valV ls p.1 with
  | some v => decide (v = p.2)
  | none => false
theorem hits_int {A : Around} {s : Shared} {ls : List (Key × V)} {vb : List (Key × Value)} (rb : KV ls vb) (hl : ∀ k v, valV ls k = some v → ∃ i, v = .int i) {ks : List (Key × V)} {va : List (Key × Value)} (ra : KV ks va) (hk : ∀ p ∈ ks, ∃ i, p.2 = V.int i) :
    PySem.W.KeqHits A s vb va (ks.all (hitI ls)) := by
  unfold KV at ra
  induction ra with
  | nil => exact .nil
  | @cons p q ps qs h t ih =>
    obtain ⟨h1, h2⟩ := h
    obtain ⟨i, hi⟩ := hk p List.mem_cons_self
    have rr : RelO (valV ls p.1) (valueAt vb p.1) := rb.val p.1
    obtain ⟨k, v⟩ := q
    have h1' : p.1 = k := h1
    rw [List.all_cons]
    cases e : valV ls p.1 with
    | none =>
      have z : hitI ls p = false := by unfold hitI; rw [e]
      rw [z, Bool.false_and]
      rw [e] at rr
      refine .miss ?_
      rw [← h1']
      cases e2 : valueAt vb p.1 with
      | none => rfl
      | some y => rw [e2] at rr; exact False.elim rr
    | some w =>
      obtain ⟨j, rfl⟩ := hl _ _ e
      have z : hitI ls p = decide (V.int j = p.2) := by unfold hitI; rw [e]
      rw [e] at rr
      obtain ⟨y, hy, ry⟩ := rr.some_of
      rw [h1'] at hy
      obtain ⟨t2, rfl⟩ := (show ∃ t, y = Value.int j t from ry)
      rw [hi] at h2
      obtain ⟨t1, e1⟩ := (show ∃ t, v = Value.int i t from h2)
      subst e1
      have eq := SeqAt.EqAt.int_int (A := A) (s := s) i t1 j t2
      have zz : hitI ls p = (i == j) := by
        rw [z, hi, Bool.eq_iff_iff]
        simp only [decide_eq_true_eq, beq_iff_eq]
        exact ⟨fun q => (V.int.inj q).symm, fun q => by rw [q]⟩
      rw [zz]
      exact .hit hy eq (ih fun p' hm => hk p' (List.mem_cons_of_mem _ hm))
def rEqDI : R2 := fun x y H Q => ∃ a b ks ls, x = .ref a ∧ y = .ref b ∧ H a = some (.dK ks) ∧ H b = some (.dK ls) ∧ (∀ p ∈ ks, ∃ i, p.2 = V.int i) ∧ (∀ k v, valV ls k = some v → ∃ i, v = V.int i) ∧ Q (.bl (ks.length == ls.length && ks.all (hitI ls))) H
theorem op_eqDI (hu : X.A.units < cLine) : OpR X (compareOp .Eq) rEqDI := by
  intro pins s σ H x y v u Q I rx ry h
  obtain ⟨a, b, ks, ls, rfl, rfl, ea, eb, hk, hl, q⟩ := h
  obtain rfl : v = Value.ref a := rx
  obtain rfl : u = Value.ref b := ry
  obtain ⟨_, ya, va, ra, da⟩ := (show ObjOk X.prog X.w H s.heap a (.dK ks) from I.hok a _ ea)
  obtain ⟨_, yb, vb, rb, db⟩ := (show ObjOk X.prog X.w H s.heap b (.dK ls) from I.hok b _ eb)
  rw [ra.length, rb.length] at q
  exact PySem.W.keq_eq (knd := mixKind X.prog X.w) (r := ks.all (hitI ls)) ya yb da db hu (fun _ => hits_int rb hl ra hk) (fin_bl I q rfl)
/-- o.m(k = v, ..): keywords alone -/
def tMethK (C : Addr) (m : Str) (sp : Sp) (gV : List V → List V → List V) (E : XK) (ta : TE) (tk : TA) : TE := fun σ H Q => ta σ H fun x H1 => ∃ a dx fs, x = .ref a ∧ H1 a = some (.ins C dx fs) ∧ fs.lookup m = none ∧ tk σ H1 fun zs H2 => sp (gV [.ref a] zs) H2 Q E
theorem pe_methKw {pl : Sem Bool} {k : Nat} {fd : FuncData} {ps ks : List Str} {g : List Value → List Value → List Value} {gV : List V → List V → List V} {m : Str} {o : Expr} {kws : List Keyword} {pos apos : Pos} {ta : TE} {tk : TA}
    (he : PE X o ta) (c : Cls X.K C) (hm : Meth X.K C m f) (F : FnOk X.prog X.w X.K X.mg X.base CX k f fd ps sp) (hr : Room k X.A) (hb : KBinds X.K fd ps ks g gV) (hx : Passes CX X E) (hkw : PK X kws tk)
    (hall : (backToKw pos (keywordEach kws X.env)).all (·.1.isSome) = true := by rfl) (hks : (backToKw pos (keywordEach kws X.env)).filterMap (·.1) = ks := by rfl)
    (hpl : ((backTo pos (starEach [] X.env)).any (·.1) || (backToKw pos (keywordEach kws X.env)).any (·.1.isNone)) = false := by rfl)
    (ht : eval (.Call (.Attribute o m apos) [] kws pos) X.env = (do
      let ov ← eval o X.env
      standAt apos.atName
      let (f, first) ← holding [ov] (getMethod ov m pl)
      callWith pos f first (backTo pos (starEach [] X.env)) (backToKw pos (keywordEach kws X.env))) := by rfl) :
    PE X (.Call (.Attribute o m apos) [] kws pos) (tMethK C m sp gV E ta tk) := by
  refine ⟨fun pins s σ H Q I h => ?_⟩
  refine PySem.W.methodCall_KW (pl := pl) (thn (he.run pins s σ H _ I h) fun u s1 ⟨x, H1, I1, rx, a, dx, fs, ex, ea, l, q⟩ => ?_) ht
  subst ex
  obtain rfl : u = Value.ref a := rx
  refine getmeth_ok I1 ea c hm l ?_
  refine PySem.W.callWith_KW0 (first := [.ref a]) (h₀ := X.base) I1.ok.mod.kin hm.kp hall (thn (hkw.run pos pins s1 σ H1 _ I1 q) fun ws s2 ⟨zs, H2, I2, rz, q2⟩ => ⟨I2.kIn, ?_⟩) hpl
  rw [hks]
  exact run_fnk (us := [.ref a]) (vs := [.ref a]) F hr hb hx I2 (.cons rfl .nil) rz q2
end
end KwX

/-! name = {k: v for ..}; a dict comprehension over any walk -/
namespace KwX
open PySem PySem.Spec PySem.Calls PyProof.Rows L2 StX
section
variable {X : Cx}
theorem swd_true {kx vx : Expr} {gs : List Comprehension} {scope : Scope} {pos py : Pos} {y : Str} {l : Nat} {env : Env} (hk : env.scope.kind = .function) (hy : env.scope.names.lookup y = some .local) (hl : (py.line == pos.line) = true)
    (ha : (scope.names.any fun (n, k) => n == y && (k == .local || k == .cell)) = false) : swapsWith (.DictComp kx vx gs scope pos) (some (.Name y py)) l env = pure true := by
  have ky : env.kindOf y = some .local := hy
  have hb : env.blockKind = .function := by unfold Env.blockKind; rw [hk]; rfl
  unfold swapsWith
  simp only [hb, ky, ha, Expr.pos, hl]
  rfl
theorem ps_setDc {i : Nat} {y : Str} {py : Pos} {kx vx tg iter : Expr} {ifs : List Expr} {scope : Scope} {own : List (Str × Nat)} {pos spos : Pos} {wi : TI} {g : TG} {tt : TT} {tk tv : TE} (hc : X.calm = true) (hN : X.N.Nodup) (hy : X.N[i]? = some y) (hyl : X.env.scope.names.lookup y = some .local)
    (hsw : swapsWith (.DictComp kx vx [⟨tg, iter, ifs, 0⟩] scope pos) (some (.Name y py)) spos.line X.env = pure true) (hi : PI X tg iter wi) (ok : BlkOk X.N X.env.scope scope own)
    (hg : ∀ (s : Shared) (H : Hp) (C : Addr) (cl : List (Str × Addr)) (fp : List Addr), PG (X.blk s H scope (compEnvC scope cl C X.env) fp) tg g) (ht : ∀ (s : Shared) (H : Hp) (C : Addr) (cl : List (Str × Addr)) (fp : List Addr), PTs (X.blk s H scope (compEnvC scope cl C X.env) fp) ifs tt)
    (hk : ∀ (s : Shared) (H : Hp) (C : Addr) (cl : List (Str × Addr)) (fp : List Addr), PE (X.blk s H scope (compEnvC scope cl C X.env) fp) kx tk)
    (he : ∀ (s : Shared) (H : Hp) (C : Addr) (cl : List (Str × Addr)) (fp : List Addr), PE (X.blk s H scope (compEnvC scope cl C X.env) fp) vx tv) (hs : ∀ x, foldedSetIterable iter X.env x = pure x := by intro _; rfl) :
    PS X (.Assign [.Name y py] (.DictComp kx vx [⟨tg, iter, ifs, 0⟩] scope pos) spos) (tAsg (tDc wi g tt tk tv (own.map (·.2))) (gName i)) := by
  refine ⟨fun pins s σ H D I h => ?_⟩
  rw [exec_Assign_Name_used _ _ _ _ hsw]
  refine wpAny_bind (wpAny_standAt (wpAny_bind ?_))
  show wpAny _ X.A (do let _ ← comprehension (.DictComp kx vx [⟨tg, iter, ifs, 0⟩] scope pos) scope X.env (firstIterPos [⟨tg, iter, ifs, 0⟩] pos) newDict false (eval iter X.env) (some (assign (.Name y py) X.env))) _ _ s
  have h : tDc wi g tt tk tv (own.map (·.2)) σ H (fun x H1 => gName i x σ H1 D.nx) := h
  refine wpAny_bind (thn (dc_core (Qf := fun _ s' => SP X pins D .next s') hc hN I hi ok hg ht hk he hs h fun L C s' m H' I' q hn f => ?_) fun _ s' hq => wpAny_pure (wpAny_pure hq))
  show wpAny _ _ (assign (.Name y py) X.env (.ref L)) _ _ _
  refine wpAny_assign_Name (store_ok2 (v := V.ref L) I' hN hy (.inl hyl) rfl (fun s2 I2 ⟨a, sb, ha⟩ => ?_) (.inr hyl))
  obtain ⟨f0, f1, f2, f3, f4, f5⟩ := f
  have haC : C ≠ a := by
    rcases ha with z | z
    · rw [z]; exact f1
    · exact fun e => f4 y a z e.symm
  refine ⟨m, hn.sameBut sb haC, fun h3 sb3 => ?_⟩
  exact ⟨_, H', I2.turned (t' := s2.toks) (fun b o hb e => (sb3.2 b hb).trans e) f0 f1 f3 f4 f5, q⟩
theorem ps_setDcL {i : Nat} {y : Str} {py : Pos} {kx vx tg iter : Expr} {ifs : List Expr} {scope : Scope} {own : List (Str × Nat)} {pos spos : Pos} {wi : TI} {g : TG} {tt : TT} {tk tv : TE} (hc : X.calm = true) (hN : X.N.Nodup) (hy : X.N[i]? = some y) (hyl : X.env.scope.names.lookup y = some .local)
    (hsw : swapsWith (.DictComp kx vx [⟨tg, iter, ifs, 0⟩] scope pos) (some (.Name y py)) spos.line X.env = pure true) (hi : PI X tg iter wi) (ok : BlkOk X.N X.env.scope scope own)
    (hg : ∀ (s : Shared) (H : Hp) (C : Addr) (cl : List (Str × Addr)) (fp : List Addr), PG (X.blk s H scope (compEnvC scope cl C X.env) fp) tg g) (ht : ∀ (s : Shared) (H : Hp) (C : Addr) (cl : List (Str × Addr)) (fp : List Addr), PTs (X.blk s H scope (compEnvC scope cl C X.env) fp) ifs tt)
    (hk : ∀ (s : Shared) (H : Hp) (C : Addr) (cl : List (Str × Addr)) (fp : List Addr), PE (X.blk s H scope (compEnvC scope cl C X.env) fp) kx tk)
    (he : ∀ (s : Shared) (H : Hp) (C : Addr) (cl : List (Str × Addr)) (fp : List Addr), PE (X.blk s H scope (compEnvC scope cl C X.env) fp) vx tv) (hs : ∀ x, foldedSetIterable iter X.env x = pure x := by intro _; rfl) :
    PS X (.Assign [.Name y py] (.DictComp kx vx [⟨tg, iter, ifs, 0⟩] scope pos) spos) (tLock (tAsg (tDc wi g tt tk tv (own.map (·.2))) (gName i))) := ps_lock (ps_setDc hc hN hy hyl hsw hi ok hg ht hk he hs)
end
/-- a dict comprehension over a walk: Pv by the turn and the heap (the new dict at D within) -/
theorem dc_it {J : It} {n : Nat} {G : Hp → Prop} {Y : Nat → Hp → V → Hp → Prop} (w : Walk J n G Y) {g : TG} {tt : TT} {tk tv : TE} {vs : List Nat} {σ : L2.St} {H1 : Hp} {D : Addr} {Qd : Hp → Prop} (Pv : Nat → Hp → Prop) (h0 : Pv 0 (upd H1 D (.dK []))) (hG : ∀ i H, i ≤ n → Pv i H → G H)
    (hs : ∀ i x H H', i < n → Pv i H → Y i H x H' → g x (wipe σ vs) H' fun σ2 H2 => wipe σ2 vs = wipe σ vs ∧ tt σ2 H2 fun b H3 =>
      if b = true then tk σ2 H3 fun y H4 => tv σ2 H4 fun z H5 => ∃ kvs k, y = kV k ∧ H5 D = some (.dK kvs) ∧ kvs.length < sizeLine ∧ Pv (i + 1) (upd H5 D (.dK (putK kvs k z))) else Pv (i + 1) H3) (hd : ∀ H, Pv n H → Qd H) :
    ∃ W : Nat → Nat → Hp → Prop, (∃ m, W 0 m (upd H1 D (.dK []))) ∧ ∀ i m H, W i m H →
      (J.stop i H ∧ Qd H) ∨ (J.go i H ∧ ∃ Nx : Hp → Prop, (∀ H', Nx H' → ∃ m', m' < m ∧ W (i + 1) m' H') ∧ ∀ x H', J.yld i H x H' → g x (wipe σ vs) H' fun σ2 H2 => wipe σ2 vs = wipe σ vs ∧ tt σ2 H2 fun b H3 =>
        if b = true then tk σ2 H3 fun y H4 => tv σ2 H4 fun z H5 => ∃ kvs k, y = kV k ∧ H5 D = some (.dK kvs) ∧ kvs.length < sizeLine ∧ Nx (upd H5 D (.dK (putK kvs k z))) else Nx H3) := by
  refine ⟨fun i m H => m = n - i ∧ i ≤ n ∧ Pv i H, ⟨n, by simp, Nat.zero_le _, h0⟩, ?_⟩
  rintro i m H ⟨rfl, hi, p⟩
  have q := hG i H hi p
  by_cases hlt : i < n
  · refine .inr ⟨w.goes i H hlt q, Pv (i + 1), fun H' p' => ⟨n - (i + 1), by omega, rfl, hlt, p'⟩, fun x H' y => hs i x H H' hlt p (w.yields i H x H' hlt q y)⟩
  · have e : i = n := by omega
    subst e
    exact .inl ⟨w.stops H q, hd H p⟩
end KwX

/-! dicts from texts to ints, their canonical form -/
namespace VecX
open PySem PySem.Spec PyProof.Rows L2
abbrev IL := List (Str × Int)
def DI (l : IL) : List (Key × V) := l.map fun p => (Sum.inr p.1, V.int p.2)
def vl (l : IL) (k : Str) : Int := (l.lookup k).getD 0
def ks (l : IL) : List Str := l.map (·.1)
def putI (l : IL) (k : Str) (i : Int) : IL := if k ∈ ks l then l.map (fun p => if p.1 = k then (p.1, i) else p) else l ++ [(k, i)]
theorem DI_len (l : IL) : (DI l).length = l.length := List.length_map ..
theorem ks_len (l : IL) : (ks l).length = l.length := List.length_map ..
theorem DI_keys (l : IL) : (DI l).map (·.1) = (ks l).map Sum.inr := by unfold DI ks; rw [List.map_map, List.map_map]; rfl
theorem DI_kw (l : IL) : DI l = KwX.kwK (l.map fun p => (p.1, V.int p.2)) := by unfold DI KwX.kwK; rw [List.map_map]; rfl
theorem DI_val : ∀ (l : IL) (k : Str), valV (DI l) (Sum.inr k : Key) = (l.lookup k).map V.int
  | [], k => rfl
  | p :: r, k => by
    show valV ((Sum.inr p.1, V.int p.2) :: DI r) (Sum.inr k : Key) = _
    by_cases e : p.1 = k
    · rw [valV_pos (show (Sum.inr p.1 : Key) = Sum.inr k from congrArg Sum.inr e), List.lookup_cons, beq_iff_eq.mpr e.symm]
      rfl
    · rw [valV_neg (fun z => e (Sum.inr.inj z)), DI_val r k, List.lookup_cons, beq_eq_false_iff_ne.mpr (fun z => e z.symm)]
theorem DI_some {l : IL} {k : Key} {v : V} (h : valV (DI l) k = some v) : ∃ i, v = V.int i := by
  unfold valV at h
  cases e : (DI l).find? (fun kv => decide (kv.1 = k)) with
  | none => rw [e] at h; cases h
  | some p =>
    rw [e] at h
    cases h
    have m := List.mem_of_find?_eq_some e
    unfold DI at m
    obtain ⟨q, _, rfl⟩ := List.mem_map.mp m
    exact ⟨_, rfl⟩
theorem DI_int {l : IL} : ∀ p ∈ DI l, ∃ i, p.2 = V.int i := by
  intro p h
  unfold DI at h
  obtain ⟨q, _, rfl⟩ := List.mem_map.mp h
  exact ⟨_, rfl⟩
theorem any_keys (l : IL) (k : Str) : ((DI l).any fun kv => decide (kv.1 = (Sum.inr k : Key))) = decide (k ∈ ks l) := by
  rw [Bool.eq_iff_iff, List.any_eq_true, decide_eq_true_eq]
  constructor
  · rintro ⟨p, hp, e⟩
    unfold DI at hp
    obtain ⟨q, hq, rfl⟩ := List.mem_map.mp hp
    have e2 : q.1 = k := Sum.inr.inj (of_decide_eq_true e)
    rw [← e2]
    exact List.mem_map_of_mem hq
  · intro h
    obtain ⟨q, hq, e⟩ := List.mem_map.mp h
    exact ⟨(Sum.inr q.1, V.int q.2), List.mem_map_of_mem (f := fun p : Str × Int => ((Sum.inr p.1 : Key), V.int p.2)) hq, decide_eq_true (congrArg Sum.inr e)⟩
theorem DI_put (l : IL) (k : Str) (i : Int) : putK (DI l) (Sum.inr k : Key) (V.int i) = DI (putI l k i) := by
  unfold putK putI
  rw [any_keys]
  by_cases h : k ∈ ks l
  · rw [if_pos (decide_eq_true h), if_pos h]
    unfold DI
    rw [List.map_map, List.map_map]
    refine List.map_congr_left fun p _ => ?_
    show (if (Sum.inr p.1 : Key) = Sum.inr k then _ else _) = _
    by_cases e : p.1 = k
    · rw [if_pos (congrArg Sum.inr e)]
      show _ = ((fun p : Str × Int => ((Sum.inr p.1 : Key), V.int p.2)) (if p.1 = k then (p.1, i) else p))
      rw [if_pos e]
    · rw [if_neg (fun z => e (Sum.inr.inj z))]
      show _ = ((fun p : Str × Int => ((Sum.inr p.1 : Key), V.int p.2)) (if p.1 = k then (p.1, i) else p))
      rw [if_neg e]
  · rw [if_neg (by rw [decide_eq_true_eq]; exact h), if_neg h]
    unfold DI
    rw [List.map_append]
    rfl
theorem ks_put (l : IL) (k : Str) (i : Int) : ks (putI l k i) = if k ∈ ks l then ks l else ks l ++ [k] := by
  unfold putI
  by_cases h : k ∈ ks l
  · rw [if_pos h, if_pos h]
    unfold ks
    rw [List.map_map]
    refine List.map_congr_left fun p _ => ?_
    show (if p.1 = k then (p.1, i) else p).1 = p.1
    split <;> rfl
  · rw [if_neg h, if_neg h]
    unfold ks
    rw [List.map_append]
    rfl
theorem ks_put_mem {l : IL} {k x : Str} {i : Int} : x ∈ ks (putI l k i) ↔ x ∈ ks l ∨ x = k := by
  rw [ks_put]
  split
  · rename_i h
    exact ⟨.inl, fun z => z.elim id fun e => e ▸ h⟩
  · rw [List.mem_append, List.mem_singleton]
theorem ks_put_nodup {l : IL} {k : Str} {i : Int} (h : (ks l).Nodup) : (ks (putI l k i)).Nodup := by
  rw [ks_put]
  split
  · exact h
  · rename_i q
    rw [List.nodup_append]
    refine ⟨h, List.nodup_cons.mpr ⟨List.not_mem_nil, List.nodup_nil⟩, fun a ha b hb => ?_⟩
    rw [List.mem_singleton.mp hb]
    exact fun e => q (e ▸ ha)
theorem put_len {l : IL} {k : Str} {i : Int} : (putI l k i).length ≤ l.length + 1 := by
  rw [← ks_len, ks_put]
  split
  · rw [ks_len]; omega
  · rw [List.length_append, ks_len]; exact Nat.le_refl _
theorem put_mem {l : IL} {k : Str} {i : Int} {p : Str × Int} (h : p ∈ putI l k i) : p ∈ l ∨ p = (k, i) := by
  unfold putI at h
  split at h
  · obtain ⟨q, hq, e⟩ := List.mem_map.mp h
    by_cases z : q.1 = k
    · rw [if_pos z] at e
      exact .inr (by rw [← e, z])
    · rw [if_neg z] at e
      exact .inl (e ▸ hq)
  · rcases List.mem_append.mp h with h | h
    · exact .inl h
    · exact .inr (List.mem_singleton.mp h)
theorem look_mem : ∀ {l : IL} {k : Str}, (l.lookup k).isSome = true ↔ k ∈ ks l
  | [], k => by simp [ks]
  | p :: r, k => by
    rw [List.lookup_cons]
    show _ ↔ k ∈ p.1 :: ks r
    by_cases e : k = p.1
    · rw [beq_iff_eq.mpr e]
      simp [e]
    · rw [beq_eq_false_iff_ne.mpr e, List.mem_cons]
      simp only [e, false_or]
      exact look_mem
theorem look_none {l : IL} {k : Str} (h : k ∉ ks l) : l.lookup k = none := by
  cases e : l.lookup k with
  | none => rfl
  | some i => exact absurd (look_mem.mp (by rw [e]; rfl)) h
theorem look_some {l : IL} {k : Str} (h : k ∈ ks l) : l.lookup k = some (vl l k) := by
  have z := look_mem.mpr h
  unfold vl
  cases e : l.lookup k with
  | none => rw [e] at z; cases z
  | some i => rfl
theorem vl_none {l : IL} {k : Str} (h : k ∉ ks l) : vl l k = 0 := by unfold vl; rw [look_none h]; rfl
theorem vl_nil (k : Str) : vl [] k = 0 := rfl
theorem look_append {l m : IL} {k : Str} : (l ++ m).lookup k = (l.lookup k).or (m.lookup k) := by
  induction l with
  | nil => rfl
  | cons p r ih =>
    rw [List.cons_append, List.lookup_cons, List.lookup_cons]
    by_cases e : k = p.1
    · rw [beq_iff_eq.mpr e]; rfl
    · rw [beq_eq_false_iff_ne.mpr e]; exact ih
theorem vl_put (l : IL) (k : Str) (i : Int) (x : Str) : vl (putI l k i) x = if x = k then i else vl l x := by
  unfold putI
  by_cases h : k ∈ ks l
  · rw [if_pos h]
    unfold vl
    have g : ∀ l : IL, (l.map fun p => if p.1 = k then (p.1, i) else p).lookup x = if x = k then (l.lookup x).map (fun _ => i) else l.lookup x := by
      intro l
      induction l with
      | nil => split <;> rfl
      | cons p r ih =>
        rw [List.map_cons]
        by_cases e : p.1 = k
        · rw [if_pos e, List.lookup_cons, List.lookup_cons]
          by_cases e2 : x = p.1
          · rw [beq_iff_eq.mpr e2, if_pos (e2.trans e)]; rfl
          · rw [beq_eq_false_iff_ne.mpr e2]; exact ih
        · rw [if_neg e, List.lookup_cons, List.lookup_cons]
          by_cases e2 : x = p.1
          · rw [beq_iff_eq.mpr e2, if_neg (fun z => e (e2.symm.trans z))]
          · rw [beq_eq_false_iff_ne.mpr e2]; exact ih
    rw [g]
    by_cases e : x = k
    · rw [if_pos e, if_pos e]
      rw [e, look_some h]; rfl
    · rw [if_neg e, if_neg e]
  · rw [if_neg h]
    unfold vl
    rw [look_append]
    by_cases e : x = k
    · rw [if_pos e, e, look_none h, List.lookup_cons, beq_self_eq_true]; rfl
    · rw [if_neg e]
      have z : List.lookup x [(k, i)] = none := by rw [List.lookup_cons, beq_eq_false_iff_ne.mpr e]; rfl
      rw [z]
      cases l.lookup x <;> rfl
/-! the order of texts -/
def lt (a b : Str) : Prop := a.cps.toList < b.cps.toList
theorem str_ext {a b : Str} (h : a.cps.toList = b.cps.toList) : a = b := by
  cases a; cases b
  congr
  exact Array.toList_inj.mp h
theorem lt_irr {a : Str} : ¬ lt a a := List.lt_irrefl _
theorem lt_tr {a b c : Str} (h : lt a b) (g : lt b c) : lt a c := List.lt_trans h g
theorem lt_as {a b : Str} (h : lt a b) : ¬ lt b a := fun g => lt_irr (lt_tr h g)
theorem not_lt {a b : Str} (h : ¬ lt a b) (n : a ≠ b) : lt b a := by
  have z : b.cps.toList ≤ a.cps.toList := List.not_lt.mp h
  rcases List.le_iff_lt_or_eq.mp z with q | q
  · exact q
  · exact absurd (str_ext q).symm n
theorem rising_pw : ∀ {l : List Str} {p : Str}, risingS p l = true → ∀ x ∈ l, ¬ lt x p
  | [], _, _, _, hx => nomatch hx
  | y :: r, p, h, x, hx => by
    have h2 : (!ltCps y.cps.toList p.cps.toList && risingS y r) = true := h
    rw [Bool.and_eq_true, ltCps_eq] at h2
    have a : ¬ lt y p := by
      have q := h2.1
      intro z
      rw [decide_eq_true (show y.cps.toList < p.cps.toList from z)] at q
      cases q
    rcases List.mem_cons.mp hx with e | e
    · rw [e]; exact a
    · have b := rising_pw h2.2 x e
      by_cases q : y = p
      · rw [← q]; exact b
      · have c : lt p y := not_lt a q
        intro z
        exact b (lt_tr z c)
theorem sorted_pw : ∀ {l : List Str}, sortedS l = true → l.Nodup → l.Pairwise lt
  | [], _, _ => .nil
  | x :: r, h, n => by
    have h1 : risingS x r = true := h
    obtain ⟨n1, n2⟩ := List.nodup_cons.mp n
    refine .cons (fun y hy => ?_) (sorted_pw ?_ n2)
    · exact not_lt (rising_pw h1 y hy) (fun e => n1 (e ▸ hy))
    · cases r with
      | nil => rfl
      | cons y s =>
        have q : (!ltCps y.cps.toList x.cps.toList && risingS y s) = true := h1
        rw [Bool.and_eq_true] at q
        exact q.2
theorem pw_eq : ∀ {l m : List Str}, l.Pairwise lt → m.Pairwise lt → (∀ x, x ∈ l ↔ x ∈ m) → l = m
  | [], [], _, _, _ => rfl
  | [], y :: s, _, _, h => by have := (h y).mpr List.mem_cons_self; cases this
  | x :: r, [], _, _, h => by have := (h x).mp List.mem_cons_self; cases this
  | x :: r, y :: s, hl, hm, h => by
    cases hl with
    | cons hx hr =>
    cases hm with
    | cons hy hs =>
      have e : x = y := by
        rcases List.mem_cons.mp ((h x).mp List.mem_cons_self) with q | q
        · exact q
        · rcases List.mem_cons.mp ((h y).mpr List.mem_cons_self) with p | p
          · exact p.symm
          · exact absurd (hy x q) (lt_as (hx y p))
      subst e
      have nx : x ∉ r := fun z => lt_irr (hx x z)
      have ny : x ∉ s := fun z => lt_irr (hy x z)
      rw [pw_eq hr hs fun z => ⟨fun q => ?_, fun q => ?_⟩]
      · rcases List.mem_cons.mp ((h z).mp (List.mem_cons_of_mem _ q)) with p | p
        · exact absurd (p ▸ q) nx
        · exact p
      · rcases List.mem_cons.mp ((h z).mpr (List.mem_cons_of_mem _ q)) with p | p
        · exact absurd (p ▸ q) ny
        · exact p
theorem pw_nodup {l : List Str} (h : l.Pairwise lt) : l.Nodup := List.Pairwise.imp (fun {a b} (h : lt a b) (e : a = b) => lt_irr (a := b) (by rw [e] at h; exact h)) h
/-! canonical lists: names ascend, no number is 0 -/
structure Can (l : IL) : Prop where
  asc : (ks l).Pairwise lt
  ne : ∀ p ∈ l, p.2 ≠ 0
theorem vl_mem : ∀ {l : IL} {p : Str × Int}, (ks l).Nodup → p ∈ l → vl l p.1 = p.2
  | [], _, _, h => nomatch h
  | q :: r, p, n, h => by
    obtain ⟨n1, n2⟩ := List.nodup_cons.mp (show (q.1 :: ks r).Nodup from n)
    unfold vl
    rw [List.lookup_cons]
    rcases List.mem_cons.mp h with e | e
    · rw [e, beq_self_eq_true]; rfl
    · have z : p.1 ≠ q.1 := fun w => n1 (w ▸ List.mem_map_of_mem e)
      rw [beq_eq_false_iff_ne.mpr z]
      exact vl_mem n2 e
theorem Can.iff {l : IL} (c : Can l) (k : Str) : k ∈ ks l ↔ vl l k ≠ 0 := by
  constructor
  · intro h
    obtain ⟨p, hp, e⟩ := List.mem_map.mp h
    have := vl_mem (pw_nodup c.asc) hp
    rw [← e, this]
    exact c.ne p hp
  · intro h
    exact Classical.byContradiction fun n => h (vl_none n)
theorem list_of_vl {l : IL} (n : (ks l).Nodup) : l = (ks l).map fun k => (k, vl l k) := by
  unfold ks
  rw [List.map_map]
  conv => lhs; rw [← List.map_id l]
  refine List.map_congr_left fun p hp => ?_
  show p = (p.1, vl l p.1)
  rw [vl_mem n hp]
theorem Can.ext {l m : IL} (c : Can l) (d : Can m) (h : ∀ k, vl l k = vl m k) : l = m := by
  have e : ks l = ks m := pw_eq c.asc d.asc fun k => by rw [c.iff, d.iff, h k]
  rw [list_of_vl (pw_nodup c.asc), list_of_vl (pw_nodup d.asc), e]
  exact List.map_congr_left fun k _ => by rw [h k]
/-- the canonical list with these numbers at these names -/
def mk (ys : List Str) (f : Str → Int) : IL := (ys.filter fun k => decide (f k ≠ 0)).map fun k => (k, f k)
theorem ks_mk (ys : List Str) (f : Str → Int) : ks (mk ys f) = ys.filter fun k => decide (f k ≠ 0) := by
  unfold ks mk
  rw [List.map_map]
  exact List.map_id _
theorem can_mk {ys : List Str} {f : Str → Int} (h : ys.Pairwise lt) : Can (mk ys f) := by
  refine ⟨?_, fun p hp => ?_⟩
  · rw [ks_mk]; exact h.filter _
  · unfold mk at hp
    obtain ⟨k, hk, rfl⟩ := List.mem_map.mp hp
    exact of_decide_eq_true (List.mem_filter.mp hk).2
theorem vl_mk {ys : List Str} {f : Str → Int} (h : ys.Nodup) (k : Str) : vl (mk ys f) k = if k ∈ ys then f k else 0 := by
  have nd : (ks (mk ys f)).Nodup := by rw [ks_mk]; exact h.filter _
  by_cases m : k ∈ ks (mk ys f)
  · obtain ⟨p, hp, e⟩ := List.mem_map.mp m
    rw [← e, vl_mem nd hp]
    unfold mk at hp
    obtain ⟨z, hz, rfl⟩ := List.mem_map.mp hp
    rw [if_pos (List.mem_filter.mp hz).1]
  · rw [vl_none m]
    rw [ks_mk, List.mem_filter] at m
    split
    · rename_i q
      have : ¬ (decide (f k ≠ 0) = true) := fun w => m ⟨q, w⟩
      have := fun w => this (decide_eq_true w)
      exact (Classical.byContradiction fun w => this fun z => w z.symm)
    · rfl
end VecX

/-! tuple(d), bool(d), bool(o) -/
namespace PySem
open Sem (wp)
open AutoSeq1 (wpAny_loadPart')
section
variable {prog : Program} {w : World} {A : Around} {E : Value → Shared → Prop} {s : Shared} {T : String} {r d : Addr} {n : Nat} {P : Nat → Value → Prop} {OK : Heap → Prop}
theorem code_tuple_new_d {Q₁ : Value → Shared → Prop} (K : PySem.W.KdlSrc prog w T r d n P OK) (hh : A.handled = none) (hok : OK s.heap) (hT : s.TypeIs (.ref r) T) (ne : T ≠ "tuple")
    (h : ∀ (h' : Heap) (tk : Nat) (acc : Array Value), (∀ b o, s.heap.get? b = some o → h'.get? b = some o) → ItemsOf P acc n → Q₁ (.ref h'.objs.size) { s with heap := h'.push { cls := .type "tuple", data := .seq acc }, toks := tk }) (hsz : n ≤ sizeLine) :
    codeAny (model prog w) A (.call (.builtin "tuple.__new__") ⟨[.type "tuple", .ref r], []⟩) (wants Q₁ E) s := by
  refine codeAny_of_tree ?_
  show wpAny _ A.in1 (do checkBuiltinCall "tuple.__new__" ⟨[.type "tuple", .ref r], []⟩; again (.builtin "tuple.__new__" ⟨[.type "tuple", .ref r], []⟩)) _ _ s
  refine wpAny_bind (wpAny_of_eq (F.newCall_tuple_1 _) (wpAny_pure ⟨plainId_quiet F.plain_tuple_new _, codeAny_builtin F.entry_tuple_new ?_⟩))
  rw [Around.under_plainId F.plain_tuple_new _]
  have hsub := sub_tuple_self
  have hinit := init_tuple_lookup
  have hmh := madeHere_tuple
  wp_walk using wpAny_typeOf hT, PySem.W.kdu_collect (A := A.in1) K hh hok hsz
  intro h' tk acc hk hacc
  show wpAny _ _ (Builtin.Tuple.tupleExact acc.toList.toArray >>= fun v => ret v) _ _ _
  unfold Builtin.Tuple.tupleExact
  refine wpAny_bind (wpAny_newObj_type ?_ (by show acc.toList.toArray.size ≤ sizeLine; simp only [Array.toArray_toList]; rw [hacc.1]; exact hsz))
  refine wpAny_pure ?_
  have e : acc.toList.toArray = acc := by simp
  rw [e]
  exact h h' tk acc hk hacc
theorem call_tuple_d {Q : Value → Shared → Prop} (K : PySem.W.KdlSrc prog w T r d n P OK) (hh : A.handled = none) (hok : OK s.heap) (hT : s.TypeIs (.ref r) T) (ne : T ≠ "tuple")
    (h : ∀ (h' : Heap) (tk : Nat) (acc : Array Value), (∀ b o, s.heap.get? b = some o → h'.get? b = some o) → ItemsOf P acc n → Q (.ref h'.objs.size) { s with heap := h'.push { cls := .type "tuple", data := .seq acc }, toks := tk }) (hsz : n ≤ sizeLine) :
    wpAny (model prog w) A (call (.type "tuple") [.ref r]) Q E s := by
  refine callType_codes (Q₁ := fun obj s₁ => s₁.TypeIs obj "tuple" ∧ Q obj s₁) F.called_tuple (F.typeCall_tuple_1 _) F.entry_object_init
    (code_tuple_new_d (A := A.in1) K hh hok hT ne (fun h' tk acc hm hacc => ⟨⟨_, Heap.get?_push_size _ rfl, rfl⟩, h h' tk acc hm hacc⟩) hsz) fun obj s₁ h₁ => ?_
  exact ⟨h₁.1, F.args_object_init_2 obj _, object_init_meets F.called_tuple.init.lookup F.called_tuple.made (by decide) prog w A.in1 _ s₁ ⟨h₁.1, rfl, h₁.2⟩⟩
/-- bool(x) by truth -/
theorem code_bool_t {x : Value} {Q₁ : Value → Shared → Prop} (h : wpAny (model prog w) A.in1 (truthy x) (fun b s' => Q₁ (.bool b) s') (fun e s' => wants Q₁ E (.error e) s') s) :
    codeAny (model prog w) A (.call (.builtin "bool.__new__") ⟨[.type "bool", x], []⟩) (wants Q₁ E) s := by
  refine codeAny_of_tree ?_
  show wpAny _ A.in1 (do checkBuiltinCall "bool.__new__" ⟨[.type "bool", x], []⟩; again (.builtin "bool.__new__" ⟨[.type "bool", x], []⟩)) _ _ s
  refine wpAny_bind (wpAny_of_eq (F.newCall_bool_1 x) (wpAny_pure ⟨plainId_quiet (by decide +kernel) _, codeAny_builtin F.entry_bool_new ?_⟩))
  rw [Around.under_plainId (by decide +kernel) _]
  have f1 := F.conv_sub_bool
  wp_walk using h
  show wpAny _ _ (truthy x) _ _ _
  exact wpAny_mono h (fun b s' hb => wpAny_pure hb) fun _ _ z => z
theorem call_bool_t {x : Value} {Q : Value → Shared → Prop} (h : wpAny (model prog w) A.in1.in1 (truthy x) (fun b s' => Q (.bool b) s') E s) : wpAny (model prog w) A (call (.type "bool") [x]) Q E s := by
  refine callType_codes (Q₁ := fun obj s₁ => s₁.TypeIs obj "bool" ∧ Q obj s₁) F.called_bool (F.typeCall_bool_1 _) F.entry_object_init
    (code_bool_t (A := A.in1) (wpAny_mono h (fun b s' hb => ⟨rfl, hb⟩) fun _ _ z => z)) fun obj s₁ h₁ => ?_
  exact ⟨h₁.1, F.args_object_init_2 obj _, object_init_meets F.called_bool.init.lookup F.called_bool.made F.newNe_bool prog w A.in1 _ s₁ ⟨h₁.1, rfl, h₁.2⟩⟩
end
end PySem
namespace KwX
open PySem PySem.Spec PySem.Calls PyProof.Rows L2 StX
section
variable {X : Cx} {CX : CXT} {n : Nat} {f C : Addr} {sp : Sp} {E : XK}
/-- tuple(d): its keys -/
def rTupleD : List V → Hp → VK → Prop := fun xs H Q => ∃ (a : Addr) (kvs : List (Key × V)), xs = [.ref a] ∧ Rd H a (.dK kvs) ∧ ∀ p, H p = none → Q (.ref p) (upd H p (.tup (kvs.map fun kv => kV kv.1)))
theorem call_tupleD (hcalm : X.calm = true) : CallR X (.type "tuple") rTupleD := by
  intro pins s σ H xs us Q I r q
  obtain ⟨a, kvs, ex, hd, q⟩ := q
  subst ex
  obtain ⟨u, eu, rx⟩ := vals1 r
  subst eu
  cases rx
  obtain ⟨z, lo, vs, rel, dd⟩ := dk_rd I.hok hd
  obtain ⟨ep, hat⟩ := dd.dictAt
  have ek : (kvs.map fun kv => kV kv.1) = vs.map fun p => kV p.1 := by
    have e := congrArg (List.map kV) rel.keys
    rw [List.map_map, List.map_map] at e
    exact e
  refine call_tuple_d (PySem.W.kdl_dict (knd := mixKind X.prog X.w) (kvs := vs) (ep := ep) lo) (I.ok.hd hcalm) hat dd.typeIs (by decide) (fun h' tk acc hk hacc => ?_) (by rw [← rel.length]; exact z)
  have hv : Vals (vs.map fun p => kV p.1) acc.toList := keys_at (by rw [Array.length_toList]; exact hacc.1) fun j v e => hacc.2 j v (by rw [← Array.getElem?_toList]; exact e)
  have I1 : Inv X pins σ H { s with heap := h', toks := tk } := I.kept (t' := tk) hk
  have hz : (kvs.map fun kv => kV kv.1).length ≤ sizeLine := by rw [List.length_map]; exact z
  have I2 : Inv X pins σ (upd H h'.objs.size (.tup (kvs.map fun kv => kV kv.1))) { s with heap := h'.push { cls := .type "tuple", data := .seq acc }, toks := tk } := by
    refine I1.laid (t' := tk) (fun b o e => Heap.get?_push_of_some _ e) (Nat.le_refl _) (show ObjOk X.prog X.w _ _ _ (.tup (kvs.map fun kv => kV kv.1)) from ⟨hz, acc.toList, by rw [ek]; exact hv, ?_⟩)
    cases acc with
    | mk its => exact IsTup.new _ _
  exact ⟨.ref h'.objs.size, _, I2, rfl, q _ (I1.hok.fresh (Nat.le_refl _))⟩
/-- bool(d) -/
def rBoolD : List V → Hp → VK → Prop := fun xs H Q => ∃ (a : Addr) (kvs : List (Key × V)), xs = [.ref a] ∧ H a = some (.dK kvs) ∧ Q (.bl (!kvs.isEmpty)) H
theorem call_boolD : CallR X (.type "bool") rBoolD := by
  intro pins s σ H xs us Q I r q
  obtain ⟨a, kvs, ex, hd, q⟩ := q
  subst ex
  obtain ⟨u, eu, rx⟩ := vals1 r
  subst eu
  cases rx
  obtain ⟨z, lo, vs, rel, dd⟩ := dk_rd I.hok (.inl hd)
  have hl := line63
  have hlen := rel.length
  refine call_bool_t (wpAny_truthy_dict lo dd (by omega) ?_)
  refine ⟨.bl (!kvs.isEmpty), H, I.tok _, ?_, q⟩
  show Value.bool (!vs.isEmpty) = Value.bool (!kvs.isEmpty)
  cases kvs with
  | nil => cases vs with
    | nil => rfl
    | cons _ _ => simp at hlen
  | cons _ _ => cases vs with
    | nil => simp at hlen
    | cons _ _ => rfl
/-- bool(o) -/
theorem call_boolO (O : OwnD X.K C "__bool__" f) (F : FnR X.prog X.w X.K X.mg X.base CX n f sp) (hr : Room (n + 2) X.A) (hx : Passes CX X E) : CallR X (.type "bool") (rBoolO C sp E) := by
  intro pins s σ H xs us Q I r h
  obtain ⟨a, rfl, ha, hs⟩ := h
  obtain ⟨u, rfl, ru⟩ := vals1 r
  obtain rfl : u = Value.ref a := ru
  obtain ⟨ox, od, J⟩ := inst_of I ha
  obtain ⟨m, hF⟩ := I.fr
  have sb : Sub X n X.A.in1.in1 := (sub1 (n := n + 1) hr).in1
  refine call_bool_t (PySem.W.truthy_K hF I.ok.mod.kin J O.fi O.fn (thn (run_at sb (us := [.ref a]) (vs := [.ref a]) F hx I (.cons rfl .nil) hs) fun v s' hv => ?_))
  obtain ⟨x, H', I', rx, b, rfl, q⟩ := hv
  obtain rfl := rx
  exact ⟨.bl b, H', I', rfl, q⟩
end
end KwX

/-! C.m(k = v): a class method by keywords alone -/
namespace KwX
open PySem PySem.Spec PySem.Calls PyProof.Rows L2 StX ClX
section
variable {X : Cx} {CX : CXT} {k : Nat} {C p g : Addr} {mc : Value} {sp : Sp} {E : XK} {o : Expr} {kws : List Keyword} {m : Str} {pos apos : Pos} {ta : TE} {tk : TA} {pl : Sem Bool} {fd : FuncData} {ps ks : List Str} {gg : List Value → List Value → List Value} {gV : List V → List V → List V}
def tCMethK (C : Addr) (sp : Sp) (gV : List V → List V → List V) (E : XK) (ta : TE) (tk : TA) : TE := fun σ H Q => ta σ H fun x H1 => x = .ref C ∧ tk σ H1 fun zs H2 => sp (gV [.ref C] zs) H2 Q E
theorem run_cmK {q : Addr} {Q : VK} {ws : List Value} {zs : List V} {pins : List (Addr × Obj)} {σ : L2.St} {H : Hp} {s : Shared} (F : FnOk X.prog X.w X.K X.mg X.base CX k g fd ps sp) (hr : Room k X.A) (hb : KBinds X.K fd ps ks gg gV) (hx : Passes CX X E) (I : Inv X ((q, PySem.W.methodObj (.ref g) (.ref C)) :: pins) σ H s)
    (r : Vals zs ws) (h : sp (gV [.ref C] zs) H Q E) : wpAny (model X.prog X.w) X.A (call (.ref q) [] (ks.zip ws)) (EP X pins σ Q) X.xe s := by
  have r1 : Vals [V.ref C] [Value.ref C] := .cons rfl .nil
  have r2 := hb.rel r1 r
  have hl : (gg [.ref C] ws).length = ps.length := by rw [← r2.length]; exact F.len _ _ _ _ h
  have z : wpAny (model X.prog X.w) X.A (call (.ref q) [] (ks.zip ws)) (EP X ((q, PySem.W.methodObj (.ref g) (.ref C)) :: pins) σ Q) X.xe s := by
    refine wpAny_call (PySem.W.method_call (pin_at I) (codeAny_mono (F.run X.A X.stack s H ⟨[.ref C], ks.zip ws⟩ (gg [.ref C] ws) (gV [.ref C] zs) Q E hr I.env0 (hb.to s [.ref C] ws I.kIn hl) r2 h) fun r s' hq => ?_))
    cases r with
    | error e => exact hx _ σ H s e s' I hq
    | ok fl =>
      cases fl with
      | ret u => exact I.after hq
      | next => exact False.elim hq
      | brk => exact False.elim hq
      | cont => exact False.elim hq
  exact thn z fun _ _ y => unpinE y
theorem pe_cmethKw (he : PE X o ta) (r : CRead X.K C mc) (c : CMet X.K C mc m p g) (F : FnOk X.prog X.w X.K X.mg X.base CX k g fd ps sp) (hr : Room k X.A) (hb : KBinds X.K fd ps ks gg gV) (hx : Passes CX X E) (hkw : PK X kws tk)
    (hall : (backToKw pos (keywordEach kws X.env)).all (·.1.isSome) = true := by rfl) (hks : (backToKw pos (keywordEach kws X.env)).filterMap (·.1) = ks := by rfl)
    (hpl : ((backTo pos (starEach [] X.env)).any (·.1) || (backToKw pos (keywordEach kws X.env)).any (·.1.isNone)) = false := by rfl)
    (ht : eval (.Call (.Attribute o m apos) [] kws pos) X.env = (do
      let ov ← eval o X.env
      standAt apos.atName
      let (f, first) ← holding [ov] (getMethod ov m pl)
      callWith pos f first (backTo pos (starEach [] X.env)) (backToKw pos (keywordEach kws X.env))) := by rfl) :
    PE X (.Call (.Attribute o m apos) [] kws pos) (tCMethK C sp gV E ta tk) := by
  refine ⟨fun pins s σ H Q I h => ?_⟩
  refine PySem.W.methodCall_KW (pl := pl) (thn (he.run pins s σ H _ I h) fun u s1 ⟨x, H1, I1, rx, ex, q⟩ => ?_) ht
  subst ex
  obtain rfl : u = Value.ref C := rx
  refine getmethcm_ok I1 r c fun s2 I2 => ?_
  refine PySem.W.callWith_of hpl (PySem.W.keeps_M c.fi) (evalArgs_kw2_nil hall (thn (hkw.run pos _ s2 σ H1 _ I2 q) fun ws s3 ⟨zs, H2, I3, rz, q2⟩ => ⟨⟨pin_at I3, I3.kIn⟩, ?_⟩))
  rw [hks]
  exact run_cmK F hr hb hx I3 rz q2
end
end KwX

/-! C.m(), C.m(e, ..): a static method -/
namespace KwX
open PySem PySem.Spec PySem.Calls PyProof.Rows L2 StX ClX
/-- C.m is a static method: its record at p, its def at g -/
structure SMet (K : PySem.W.Frag) (C : Addr) (mc : Value) (m : Str) (p g : Addr) : Prop where
  at_ : PySem.W.findCls K (.ref C) mc m = some (.get (.builtin "staticmethod.__get__") (.ref p) .none (.ref C))
  rc : ∃ rest, PySem.W.recIn K p "staticmethod" = some (.ref g :: rest)
  kp : PySem.W.keepIn K (.ref g) = true
section
variable {X : Cx} {CX : CXT} {k : Nat} {C p g : Addr} {mc : Value} {sp : Sp} {E : XK} {o e : Expr} {es : List Expr} {m : Str} {pos apos : Pos} {ta : TE} {t : TA} {pl : Sem Bool}
def tSMeth (C : Addr) (sp : Sp) (E : XK) (ta : TE) (t : TA) : TE := fun σ H Q => ta σ H fun x H1 => x = .ref C ∧ t σ H1 fun vs H2 => sp vs H2 Q E
theorem pe_smeth0 (he : PE X o ta) (r : CRead X.K C mc) (c : SMet X.K C mc m p g) (F : FnR X.prog X.w X.K X.mg X.base CX k g sp) (hr : Room k X.A) (hx : Passes CX X E)
    (ht : eval (.Call (.Attribute o m apos) [] [] pos) X.env = (do
      let ov ← eval o X.env
      standAt apos.atName
      let (f, first) ← holding [ov] (getMethod ov m pl)
      callWith pos f first (backTo pos (starEach [] X.env)) (backToKw pos (keywordEach [] X.env))) := by rfl) :
    PE X (.Call (.Attribute o m apos) [] [] pos) (tSMeth C sp E ta tNil) := by
  refine ⟨fun pins s σ H Q I h => ?_⟩
  refine PySem.W.methodCall_KW (pl := pl) (thn (he.run pins s σ H _ I h) fun u s1 ⟨x, H1, I1, rx, ex, q⟩ => ?_) ht
  subst ex
  obtain rfl : u = Value.ref C := rx
  obtain ⟨rest, hp⟩ := c.rc
  refine PySem.W.method_cls I1.kIn r.ga ?_
  refine PySem.W.cls_bind I1.kIn r.rd c.at_ (wpAny_call (PySem.W.sm_get (s := { s1 with toks := s1.toks + 1 }) I1.kIn hp (PySem.W.handed_on rfl ?_)))
  have I2 := I1.tok (s1.toks + 1)
  refine PySem.W.callWith_K0 (first := []) I2.kIn c.kp ?_
  exact wpAny_call (run_fnR (us := []) (vs := []) F hr hx I2 .nil q)
theorem pe_smeth (he : PE X o ta) (r : CRead X.K C mc) (c : SMet X.K C mc m p g) (F : FnR X.prog X.w X.K X.mg X.base CX k g sp) (hr : Room k X.A) (hx : Passes CX X E) (ha : PA X (e :: es) t)
    (hst : starEach (e :: es) X.env = (false, eval e X.env) :: starEach es X.env := by rfl) (hpl : (backTo pos (starEach es X.env)).any (·.1) = false := by rfl)
    (ht : eval (.Call (.Attribute o m apos) (e :: es) [] pos) X.env = (do
      let ov ← eval o X.env
      standAt apos.atName
      let (f, first) ← holding [ov] (getMethod ov m pl)
      callWith pos f first (backTo pos (starEach (e :: es) X.env)) (backToKw pos (keywordEach [] X.env))) := by rfl) :
    PE X (.Call (.Attribute o m apos) (e :: es) [] pos) (tSMeth C sp E ta t) := by
  refine ⟨fun pins s σ H Q I h => ?_⟩
  refine PySem.W.methodCall_KW (pl := pl) (thn (he.run pins s σ H _ I h) fun u s1 ⟨x, H1, I1, rx, ex, q⟩ => ?_) ht
  subst ex
  obtain rfl : u = Value.ref C := rx
  obtain ⟨rest, hp⟩ := c.rc
  refine PySem.W.method_cls I1.kIn r.ga ?_
  refine PySem.W.cls_bind I1.kIn r.rd c.at_ (wpAny_call (PySem.W.sm_get (s := { s1 with toks := s1.toks + 1 }) I1.kIn hp (PySem.W.handed_on rfl ?_)))
  have I2 := I1.tok (s1.toks + 1)
  refine PySem.W.callWith_K (first := []) (h₀ := X.base) I2.ok.mod.kin c.kp (thn (ha.run pos pins _ σ H1 _ I2 q) fun us s2 ⟨vs, H2, I3, rv, q2⟩ => ⟨I3.kIn, ?_⟩) hst hpl
  exact wpAny_call (run_fnR (us := us) (vs := vs) F hr hx I3 rv q2)
end
end KwX

/-! text * int; {..} != {..} over ints; a class method in a try's body; fields and class of an error that was kept -/
namespace KwX
open PySem PySem.Spec PySem.Calls PyProof.Rows L2 StX ClX
section
variable {X : Cx}
def rRepS : R2 := fun x y H Q => ∃ a k, x = .str a ∧ y = .int k ∧ MulOk a k ∧ Q (.str (PySem.Txt.mul a k)) H
theorem op_repS : OpR X (binaryOp .Mult) rRepS := by
  intro pins s σ H x y v u Q I rx ry h
  obtain ⟨a, k, rfl, rfl, ok, q⟩ := h
  obtain ⟨t, rfl⟩ := rx
  obtain ⟨t', rfl⟩ := ry
  exact PySem.SB.mul ok fun t2 k2 => ⟨.str (PySem.Txt.mul a k), H, I.tok _, ⟨_, rfl⟩, q⟩
def rNeDI : R2 := fun x y H Q => ∃ a b ks ls, x = .ref a ∧ y = .ref b ∧ H a = some (.dK ks) ∧ H b = some (.dK ls) ∧ (∀ p ∈ ks, ∃ i, p.2 = V.int i) ∧ (∀ k v, valV ls k = some v → ∃ i, v = V.int i) ∧ Q (.bl (!(ks.length == ls.length && ks.all (hitI ls)))) H
theorem op_neDI (hu : X.A.units < cLine) : OpR X (compareOp .NotEq) rNeDI := by
  intro pins s σ H x y v u Q I rx ry h
  obtain ⟨a, b, ks, ls, rfl, rfl, ea, eb, hk, hl, q⟩ := h
  obtain rfl : v = Value.ref a := rx
  obtain rfl : u = Value.ref b := ry
  obtain ⟨_, ya, va, ra, da⟩ := (show ObjOk X.prog X.w H s.heap a (.dK ks) from I.hok a _ ea)
  obtain ⟨_, yb, vb, rb, db⟩ := (show ObjOk X.prog X.w H s.heap b (.dK ls) from I.hok b _ eb)
  rw [ra.length, rb.length] at q
  exact PySem.W.keq_ne (knd := mixKind X.prog X.w) (r := ks.all (hitI ls)) ya yb da db hu (fun _ => hits_int rb hl ra hk) (fin_bl I q rfl)
end
section
variable {X : Cx} {CX : CXT} {k : Nat} {C p g : Addr} {mc : Value} {sp : Sp} {o e : Expr} {es : List Expr} {f m : Str} {pos apos : Pos} {ta : TE} {t : TA} {pl : Sem Bool} {pins : List (Addr × Obj)} {σ : L2.St} {H : Hp} {s : Shared}
/-- e.m(..), e the class at C, m a class method that may raise -/
def tCMethS (C : Addr) (sp : Sp) (E : L2.St → XK) (ta : TE) (t : TA) : TE := fun σ H Q => ta σ H fun x H1 => x = .ref C ∧ t σ H1 fun vs H2 => sp (.ref C :: vs) H2 Q (E σ)
theorem run_fnRS {E : XK} {f : Addr} {Q : VK} {us : List Value} {vs : List V} (F : FnR X.prog X.w X.K X.mg X.base CX k f sp) (hr : Room k X.A) (hx : PassesAt CX X σ E) (I : Inv X pins σ H s) (r : Vals vs us) (h : sp vs H Q E) :
    codeAny (model X.prog X.w) X.A (.call (.ref f) ⟨us, []⟩) (fun r s' => match r with | .ok (.ret v) => EP X pins σ Q v s' | .ok _ => False | .error e => X.xe e s') s := by
  refine codeAny_mono (F X.A X.stack s H us vs Q E hr I.env0 r h) fun r s' hq => ?_
  cases r with
  | error e => exact hx pins H s e s' I hq
  | ok fl =>
    cases fl with
    | ret u => exact I.after hq
    | next => exact False.elim hq
    | brk => exact False.elim hq
    | cont => exact False.elim hq
theorem run_cmS {E : XK} {q : Addr} {Q : VK} {us : List Value} {vs : List V} (F : FnR X.prog X.w X.K X.mg X.base CX k g sp) (hr : Room k X.A) (hx : PassesAt CX X σ E) (I : Inv X ((q, PySem.W.methodObj (.ref g) (.ref C)) :: pins) σ H s)
    (r : Vals vs us) (h : sp (.ref C :: vs) H Q E) : wpAny (model X.prog X.w) X.A (call (.ref q) us) (EP X pins σ Q) X.xe s := by
  have z : wpAny (model X.prog X.w) X.A (call (.ref q) us) (EP X ((q, PySem.W.methodObj (.ref g) (.ref C)) :: pins) σ Q) X.xe s :=
    wpAny_call (PySem.W.method_call (pin_at I) (run_fnRS (us := .ref C :: us) (vs := .ref C :: vs) F hr hx I (.cons rfl r) h))
  exact thn z fun _ _ y => unpinE y
theorem pe_cmethS {E : L2.St → XK} (he : PE X o ta) (r : CRead X.K C mc) (c : CMet X.K C mc m p g) (F : FnR X.prog X.w X.K X.mg X.base CX k g sp) (hr : Room k X.A) (hx : ∀ σ, PassesAt CX X σ (E σ)) (ha : PA X (e :: es) t)
    (hst : starEach (e :: es) X.env = (false, eval e X.env) :: starEach es X.env := by rfl) (hpl : (backTo pos (starEach es X.env)).any (·.1) = false := by rfl)
    (ht : eval (.Call (.Attribute o m apos) (e :: es) [] pos) X.env = (do
      let ov ← eval o X.env
      standAt apos.atName
      let (f, first) ← holding [ov] (getMethod ov m pl)
      callWith pos f first (backTo pos (starEach (e :: es) X.env)) (backToKw pos (keywordEach [] X.env))) := by rfl) :
    PE X (.Call (.Attribute o m apos) (e :: es) [] pos) (tCMethS C sp E ta t) := by
  refine ⟨fun pins s σ H Q I h => ?_⟩
  refine PySem.W.methodCall_KW (pl := pl) (thn (he.run pins s σ H _ I h) fun u s1 ⟨x, H1, I1, rx, ex, q⟩ => ?_) ht
  subst ex
  obtain rfl : u = Value.ref C := rx
  refine getmethcm_ok I1 r c fun s2 I2 => ?_
  refine callwith_cm I2 (base_none I1 (Nat.le_refl _)) c.fi (thn (ha.run pos _ s2 σ H1 _ I2 q) fun us s3 ⟨vs, H2, I3, rv, q2⟩ => ⟨⟨pin_at I3, I3.kIn⟩, ?_⟩) hst hpl
  exact run_cmS F hr (hx σ) I3 rv q2
end
section
variable {X : Cx}
theorem caught_at {P : Program} {w : World} {H : Hp} {h : Heap} {a : Addr} {cls : Value} {d : Option Addr} (hok : HOk P w H h) (he : H a = some (Caught cls d a)) : ∃ oe vs, h.get? a = some oe ∧ Zc cls d oe ∧ oe.data = .fields vs := by
  have x : ObjOk P w H h a (.ext fun h => ∃ oe vs, h.get? a = some oe ∧ Zc cls d oe ∧ oe.data = .fields vs) := hok a _ he
  exact x.1
/-- an error that was kept, of the class at C, with these fields -/
structure Kept1 (C a : Addr) (fs : List (Str × V)) (H : Hp) : Prop where
  ex : ∃ d, H a = some (Caught (.ref C) (some d) a) ∧ H d = some (.xd fs)
theorem kept_inst {C a : Addr} {fs : List (Str × V)} {pins : List (Addr × Obj)} {σ : L2.St} {H : Hp} {s : Shared} (I : Inv X pins σ H s) (k : Kept1 C a fs H) :
    ∃ (oe od : Obj) (mA : Str → Option Value), PySem.W.InstAt s.heap a oe C (some od) ∧ (∀ name, PySem.W.lookIn name od = some (mA name)) ∧ ∀ f, RelO (fs.lookup f) (mA f) := by
  obtain ⟨d, e1, e2⟩ := k
  obtain ⟨oe, vs, ho, hz, hd⟩ := caught_at I.hok e1
  have hx : ObjOk X.prog X.w H s.heap d (.xd fs) := I.hok d _ e2
  obtain ⟨mA, hns, hr⟩ := hx
  obtain ⟨od, hod, hl⟩ := lookIn_ns hns
  exact ⟨oe, od, mA, ⟨ho, hz.1, by unfold PySem.W.notCls; rw [hd] <;> rfl, by rw [hz.2]; exact hod⟩, hl, hr⟩
/-- e.f of such an error -/
def tFldC (K : PySem.W.Frag) (f : Str) (te : TE) : TE := fun σ H Q => te σ H fun x H1 => ∃ (a C : Addr) (fs : List (Str × V)) (v : V), x = .ref a ∧ EvX.AskC K C ∧ PySem.W.findIn K (.ref C) f = some none ∧ Kept1 C a fs H1 ∧ fs.lookup f = some v ∧ Q v H1
theorem pe_fldC {e : Expr} {te : TE} {pos : Pos} {f : Str} (he : PE X e te) (hb : attributeBase e f X.env (eval e X.env) = eval e X.env := by rfl) : PE X (.Attribute e f pos) (tFldC X.K f te) := by
  refine ⟨fun pins s σ H Q I h => ?_⟩
  refine attr_of hb (thn (he.run pins s σ H _ I h) ?_)
  rintro u s1 ⟨x, H1, I1, rx, a, C, fs, v, rfl, T, hno, kp, l, q⟩
  obtain rfl : u = Value.ref a := rx
  obtain ⟨oe, od, mA, J, hl, hr⟩ := kept_inst I1 kp
  obtain ⟨w, hw, rw'⟩ := RelO.some_of (v := v) (o := mA f) (by rw [← l]; exact hr f)
  exact HandSPX.exc_get I1.kIn J T.ga T.gg T.exC (PySem.W.findObj_own T.hd hno rfl (by rw [hl, hw])) (handed_of rw') ⟨v, H1, I1.tok _, rw', q⟩
/-- isinstance(e, c) of such an error -/
def rAskC (K : PySem.W.Frag) : List V → Hp → VK → Prop := fun xs H Q => ∃ (a C : Addr) (fs : List (Str × V)) (c : V) (cv : Value) (b : Bool), xs = [.ref a, c] ∧ (∀ u, RelV c u → u = cv) ∧ EvX.AskC K C ∧ Kept1 C a fs H ∧ PySem.W.kitOne K (.ref C) cv = some b ∧ Q (.bl b) H
theorem call_askC : CallR X (.builtin "isinstance") (rAskC X.K) := by
  intro pins s σ H xs us Q I r h
  obtain ⟨a, C, fs, c, cv, b, rfl, hcv, T, kp, e, q⟩ := h
  obtain ⟨oe, od, mA, J, _, _⟩ := kept_inst I kp
  obtain ⟨cd, hc, _⟩ := PySem.W.any_some T.hd
  have own : (PySem.W.clsIn X.K C).isSome = true := by
    rw [hc]
    rfl
  cases r with
  | cons rx rr =>
    cases rr with
    | cons rt rr =>
      cases rr
      cases rx
      have ec := hcv _ rt
      subst ec
      have fin : ∀ tk, EP X pins σ Q (.bool b) { s with toks := tk } := fun tk => ⟨.bl b, H, I.kept (t' := tk) fun _ _ z => z, rfl, q⟩
      exact PySem.W.kia_one (PySem.W.kitx_exc own T.ga T.gg T.exC T.ca T.cn T.ct T.cm) I.kIn J e (fun z => nomatch z) fin
theorem g_cmS {C : Addr} {sp : Sp} {E : L2.St → XK} {ta : TE} {t : TA} {σ : L2.St} {H : Hp} {Q : VK} (h : ta σ H fun x H1 => x = .ref C ∧ t σ H1 fun vs H2 => sp (.ref C :: vs) H2 Q (E σ)) : tCMethS C sp E ta t σ H Q := h
theorem g_fldC {K : PySem.W.Frag} {f : Str} {te : TE} {σ : L2.St} {H : Hp} {Q : VK} (h : te σ H fun x H1 => ∃ (a C : Addr) (fs : List (Str × V)) (v : V), x = .ref a ∧ EvX.AskC K C ∧ PySem.W.findIn K (.ref C) f = some none ∧ Kept1 C a fs H1 ∧ fs.lookup f = some v ∧ Q v H1) : tFldC K f te σ H Q := h
end
end KwX

/-! a list comprehension whose step may raise -/
namespace UcX
open PySem PySem.Spec PySem.Calls PyProof.Rows L2
/-- what is wanted behind the block -/
def postX (M : Model) (A : Around) (E : Value → Shared → Prop) (use : Option (Value → Sem Unit)) (Q : Value → Shared → Prop) (acc : Value) (cenv : Env) (r : Result) (s' : Shared) : Prop :=
  match r, use with
  | .ok _, none => ∃ m, s'.heap.Ns cenv.locals m ∧ ∀ h', Heap.SameBut cenv.locals s'.heap h' → Q acc { s' with heap := h' }
  | .ok _, some u => wpAny M A (u acc) (fun _ s'' => ∃ m, s''.heap.Ns cenv.locals m ∧ ∀ h', Heap.SameBut cenv.locals s''.heap h' → Q .none { s'' with heap := h' }) E s'
  | .error x, _ => ∃ m, s'.heap.Ns cenv.locals m ∧ ∀ h' m', h'.Ns cenv.locals m' → Heap.SameBut cenv.locals s'.heap h' → wpAny M A (passOn "comprehension.variables-let-go" x cenv : Sem Value) (fun _ _ => False) E { s' with heap := h' }
section
variable {M : Model} {A : Around} {E : Value → Shared → Prop} {s : Shared} {env : Env}
theorem comp_freeX {e : Expr} {scope : Scope} {pos : Pos} {newAcc first : Sem Value} {g : Comprehension} {gs : List Comprehension} {cl : List (Str × Addr)} {use : Option (Value → Sem Unit)}
    {Q : Value → Shared → Prop}
    (hcl : clausesOf e = g :: gs) (hs : ∀ x, foldedSetIterable g.iter env x = pure x) (hclos : closureFor scope env = pure cl)
    (hkind : scope.kind = .function) (hnames : ∀ x ∈ scope.names, x.2 = .local → scope.names.lookup x.1 = some .local)
    (h : wpAny M A first (fun x s₁ => wpAny M A (pyIter x) (fun it s₂ => wpAny M A newAcc (fun acc s₃ =>
      wpAny M A (newFunctionEnv scope env.globals cl [] env.qual none .none (some env)) (fun cenv s₄ =>
        codeAny M A (.compStart e 0 it acc { cenv with scope := relabel scope env }) (postX M A E use Q acc { cenv with scope := relabel scope env }) s₄) E s₃) E s₂) E s₁) E s) :
    wpAny M A (comprehension e scope env pos newAcc false first use) Q E s := by
  unfold comprehension
  rw [hclos, hcl]
  refine wpAny_bind (wpAny_mono h (fun x s₁ h₁ => wpAny_bind (wpAny_standAt (wpAny_bind (wpAny_of_eq (hs x) (wpAny_bind (wpAny_holding (wpAny_mono h₁ (fun it s₂ h₂ =>
    wpAny_standIf (wpAny_bind (wpAny_mono h₂ (fun acc s₃ h₃ => wpAny_bind (wpAny_pure (wpAny_bind (wpAny_mono h₃ (fun cenv s₄ h₄ => ?_) fun _ _ h' => h')))) fun _ _ h' => h')))
      fun _ _ h' => h'))))))) fun _ _ h' => h')
  dsimp only
  have hv : ∀ x ∈ (scope.names.filter fun x => (x.2 == .local || x.2 == .cell) && x.1 != (".0" : Str)).reverse, x.2 = .local →
      Env.kindOf { cenv with scope := relabel scope env } x.1 = some .local := fun x hx hl => lookup_relabel_local (hnames x (List.mem_filter.mp (List.mem_reverse.mp hx)).1 hl)
  have hv' : ∀ x ∈ (scope.names.filter fun x => (x.2 == .local || x.2 == .cell) && x.1 != (".0" : Str)).reverse.drop 1 ++ (scope.names.filter fun x => (x.2 == .local || x.2 == .cell) && x.1 != (".0" : Str)).reverse.take 1,
      x.2 = .local → Env.kindOf { cenv with scope := relabel scope env } x.1 = some .local := fun x hx hl => by
    rcases List.mem_append.mp hx with h1 | h1
    · exact hv x (List.mem_of_mem_drop h1) hl
    · exact hv x (List.mem_of_mem_take h1) hl
  refine wpAny_holding (wpAny_bind (wpAny_attempt (wpAny_holding (wpAny_run (codeAny_mono h₄ fun r s' hr => ?_)))))
  cases r with
  | ok f =>
    cases use with
    | none =>
      obtain ⟨m, hn, hr⟩ := hr
      exact wpAny_bind (wpAny_holding (wpAny_comp_letGo (cenv := { cenv with scope := relabel scope env }) hkind _ s' m hv hn fun h' m' _ hs' => wpAny_pure (hr h' hs')))
    | some u =>
      refine wpAny_bind (wpAny_rule (wpAny_bind (wpAny_holding (wpAny_mono hr (fun _ s'' hr' => ?_) fun _ _ h' => h'))))
      obtain ⟨m, hn, hr'⟩ := hr'
      exact wpAny_bind (wpAny_comp_letGo (cenv := { cenv with scope := relabel scope env }) hkind _ s'' m hv' hn fun h' m' _ hs' => wpAny_pure (hr' h' hs'))
  | error x =>
    have hr' : ∃ m, s'.heap.Ns cenv.locals m ∧ ∀ h' m', h'.Ns cenv.locals m' → Heap.SameBut cenv.locals s'.heap h' → wpAny M A (passOn "comprehension.variables-let-go" x { cenv with scope := relabel scope env } : Sem Value) (fun _ _ => False) E { s' with heap := h' } := by cases use <;> exact hr
    obtain ⟨m, hn, hr⟩ := hr'
    exact wpAny_bind (wpAny_holding (wpAny_comp_letGo (cenv := { cenv with scope := relabel scope env }) hkind _ s' m hv hn fun h' m' hn' hs' => wpAny_mono (hr h' m' hn' hs') (fun _ _ f => f.elim) fun _ _ y => y))
end
theorem noteFrame_frame {e : Value} {env env' : Env} (h : env'.frame = env.frame) : noteFrame e env' = noteFrame e env := by
  unfold noteFrame PySem.frameOf
  rw [h]
section
variable {X : Cx} {pins : List (Addr × Obj)} {σ : L2.St} {H H' : Hp} {s s' : Shared} {W : WX} {E : XK}
/-- what was raised, in the air of X, as Sky says it -/
theorem XE.of_sky {a : Addr} {B : Heap} {cls : Value} {d : Option Addr} (I : Inv X pins σ H s) (sky : Sky B X.stack a (Zc cls d) X.env.locals s'.heap) (st : B.StaysIn s'.heap) (hok : HOk X.prog X.w H' B) (ub : UB (frs X.stack) H H' s.heap B s'.heap) (na : H' a = none)
    (os : s'.os = s.os) (ag : AllBare s'.gens) (hE : W cls d σ H') : XE X W (.ref a) s' := by
  obtain ⟨G, g1, g2⟩ := restrict s'.heap fun b => (B.get? b).isSome || decide (b ∈ frs X.stack)
  have gB : ∀ b o, B.get? b = some o → G.get? b = some o := fun b o e => by
    rw [g1 b (by simp [e])]
    exact st b o e
  have gF : ∀ b, b ∈ frs X.stack → G.get? b = s'.heap.get? b := fun b hb => g1 b (by simp [hb])
  have og : ∀ b o, G.get? b = some o → s'.heap.get? b = some o ∧ ((B.get? b).isSome = true ∨ b ∈ frs X.stack) := fun b o e => by
    cases q : ((B.get? b).isSome || decide (b ∈ frs X.stack)) with
    | false => rw [g2 b q] at e; cases e
    | true =>
      rw [g1 b q] at e
      exact ⟨e, by simpa [Bool.or_eq_true] using q⟩
  refine ⟨a, B, { s with heap := G, gens := s'.gens, drawn := s'.drawn, toks := s'.toks }, pins, σ, H', cls, d, rfl, ?_, fun b o e hb => ?_, Heap.UpToSlots.of_keeps fun b o e => (og b o e).1, sky, na, os, ag, hE⟩
  · refine I.call (ch := []) ⟨fun b o e n hb _ => gB b o (ub.keep b o e n hb), fun b o e n hb _ => ?_, fun b o e n _ => ub.free b o e n, fun b o e _ => ?_, ub.tups, ub.frzs, ub.tbls⟩ (hok.kept gB) ag (fun _ z => nomatch z)
    · obtain ⟨sl, q⟩ := ub.slot b o e hb
      exact ⟨sl, by rw [gF b hb]; exact q⟩
    · by_cases hb : b ∈ frs X.stack
      · obtain ⟨sl, q⟩ := ub.slot b o e hb
        exact ⟨_, by rw [gF b hb]; exact q⟩
      · obtain ⟨o', q⟩ := ub.there b o e hb
        exact ⟨o', gB b o' q⟩
  · obtain ⟨e', h⟩ := og b o e
    rcases h with h | h
    · obtain ⟨o', q⟩ := Option.isSome_iff_exists.mp h
      have z := st b o' q
      rw [e'] at z; cases z
      exact q
    · exact absurd h hb
/-- an exception of a call in a block leaves the block -/
theorem blk_err {ce : Env} {u : Value} {E₁ : Value → Shared → Prop} (hs : X.stack = X.env :: X.outer) (hf : X.env.frame = some X.env.locals) (hcf : ce.frame = X.env.frame)
    (I : Inv X pins σ H s) (fC : FpOk X pins H ce.locals) (hC : ∃ m, s.heap.Ns ce.locals m) (c : L2.CX X.prog X.w X.stack H s E u s') (tk : Takes X W) (hW : ∀ cls d σ H, E cls d H → W cls d σ H) :
    wpAny (model X.prog X.w) X.A (noteFrame u ce) (fun _ s'' => ∃ m, s''.heap.Ns ce.locals m ∧ ∀ h' m', h'.Ns ce.locals m' → Heap.SameBut ce.locals s''.heap h' →
      wpAny (model X.prog X.w) X.A (passOn "comprehension.variables-let-go" u ce : Sem Value) (fun _ _ => False) X.xe { s'' with heap := h' }) E₁ s' := by
  obtain ⟨a, B, H', cls, d, rfl, fl, hok, ub, na, os, ag, hE⟩ := c
  have hfr : X.A.frames = some (X.env :: X.outer) := by rw [I.ok.frames, hs]
  obtain ⟨f0, f1, f2, f3, f4, f5⟩ := fC
  have nC : ce.locals ∉ frs X.stack := fun z => by
    rcases List.mem_cons.mp (I.stkSub _ z) with z | z
    · exact f1 z
    · exact f2 z
  obtain ⟨m, o, es, ep, ho, hr⟩ := hC
  have hB : B.get? ce.locals = some o := ub.keep _ _ ho f0 nC
  have hstk : ∀ b ∈ frs X.stack, ∀ o, s.heap.get? b = some o → ∀ vs, o.data ≠ .fields vs := fun b hb o e => by
    obtain ⟨_, o', e', hd⟩ := I.stack.mem hb
    rw [e] at e'; cases e'
    exact hd
  rw [noteFrame_frame hcf]
  rw [hs] at fl
  refine HandSPX.looks_onZ Zc.steady hfr hf fl fun h1 hh up1 => ?_
  refine ⟨m, ⟨o, es, ep, hh.1 _ _ hB, hr⟩, fun h2 m2 hn2 sb => ?_⟩
  obtain ⟨o2, es2, ep2, ho2, hr2⟩ := hn2
  -- the ground, with what was let go
  obtain ⟨B2, b1, b2⟩ := restrict h2 fun b => (B.get? b).isSome
  have bB : ∀ b o, b ≠ ce.locals → B.get? b = some o → B2.get? b = some o := fun b o n e => by
    rw [b1 b (by simp [e]), sb.2 b n]
    exact hh.1 b o e
  have bC : B2.get? ce.locals = some o2 := by rw [b1 _ (by simp [hB])]; exact ho2
  have bN : ∀ b, B.get? b = none → B2.get? b = none := fun b e => b2 b (by simp [e])
  have st2 : B2.StaysIn h2 := fun b o e => by
    cases q : (B.get? b).isSome with
    | false => rw [b2 b q] at e; cases e
    | true => rw [b1 b q] at e; exact e
  obtain ⟨k1, k2, k3, oe, vs, T, oT, ts, he, hz, hd, hv1, hnT, hTe, hT, hdT, h3⟩ := hh
  have neC : a ≠ ce.locals := fun z => by rw [z, hB] at k2; cases k2
  have nTC : T ≠ ce.locals := fun z => by rw [z, hB] at hnT; cases hnT
  have nC2 : ∀ b ∈ frs (X.env :: X.outer), b ≠ ce.locals := fun b hb z => nC (by rw [hs, ← z]; exact hb)
  have frB2 : ∀ b ∈ frs (X.env :: X.outer), B2.get? b = none := fun b hb => bN b (by
    obtain ⟨z, _⟩ := k3.mem hb
    exact z)
  have ff : ∀ l : List Env, (∀ b ∈ frs l, b ∈ frs (X.env :: X.outer)) → h1.FunFrames B l → h2.FunFrames B2 l := by
    intro l
    induction l with
    | nil => intro _ _; trivial
    | cons env r ih =>
      intro hsub hl
      obtain ⟨hk, ⟨L, o, hfL, hn, ho, hd⟩, hr⟩ := hl
      have hL : L ∈ frs (X.env :: X.outer) := hsub L (by unfold frs; rw [List.filterMap_cons, hfL]; exact List.mem_cons_self)
      exact ⟨hk, ⟨L, o, hfL, bN L hn, by rw [sb.2 L (nC2 L hL)]; exact ho, hd⟩, ih (fun b hb => hsub b (by unfold frs; rw [List.filterMap_cons, hfL]; exact List.mem_cons_of_mem _ hb)) hr⟩
  have held2 : HandSPX.HeldZ B2 (X.env :: X.outer) a (Zc cls d) X.env.locals h2 :=
    ⟨st2, bN a k2, ff _ (fun _ h => h) k3, oe, vs, T, oT, ts, by rw [sb.2 a neC]; exact he, hz, hd, hv1, bN T hnT, hTe, by rw [sb.2 T nTC]; exact hT, hdT, h3⟩
  unfold PySem.passOn
  refine wpAny_bind (wpAny_field (s := { s' with heap := h2 }) (by show h2.get? a = _; rw [sb.2 a neC]; exact he) hd hv1 ?_)
  rw [if_neg (by simp)]
  rw [hcf, hf]
  refine wpAny_bind (HandSPX.setFlight_onZ (s := { s' with heap := h2 }) held2 fun h4 held4 up4 => ?_)
  refine wpAny_throw ?_
  refine tk _ _ ?_
  -- the state at the call, with what was let go
  have I2 : Inv X pins σ H { s with heap := s.heap.update ce.locals (fun _ => o2) } := I.turned (t' := s.toks) (fun b o n e => by rw [Heap.get?_update_other _ _ (Ne.symm n)]; exact e) f0 f1 f3 f4 f5
  have nf2 : o2.isFreed = false := Obj.isFreed_of_dict hr2.1
  have sC : (s.heap.update ce.locals (fun _ => o2)).get? ce.locals = some o2 := Heap.get?_update_self _ ho nf2
  have sO : ∀ b, b ≠ ce.locals → (s.heap.update ce.locals (fun _ => o2)).get? b = s.heap.get? b := fun b n => Heap.get?_update_other _ _ (Ne.symm n)
  have hokB2 : HOk X.prog X.w H' B2 := fun b u q => by
    have fC' : H' ce.locals = none := ub.free _ _ ho f0
    refine (hok b u q).stay (fun c v hc r => bB c v (fun z => ?_) r) (fun _ r => r) fun _ _ r => r
    rcases hc with hc | hc
    · rw [← hc, z, fC'] at q; cases q
    · rw [z, fC'] at hc; cases hc
  refine XE.of_sky (s' := { s' with heap := h4 }) (H' := H') I2 (.inr (.inr (by rw [hs]; exact held4))) held4.1 hokB2 ⟨fun b o e n hb => ?_, fun b o e hb => ?_, fun b o e n => ?_, fun b o e hb => ?_, ub.tups, ub.frzs, ub.tbls⟩ na os ag (hW _ _ _ _ hE)
  · by_cases z : b = ce.locals
    · rw [z] at e ⊢
      have e : (s.heap.update ce.locals (fun _ => o2)).get? ce.locals = some o := e
      rw [sC] at e; rw [bC]; exact e
    · have e : (s.heap.update ce.locals (fun _ => o2)).get? b = some o := e
      rw [sO b z] at e
      exact bB b o z (ub.keep b o e n hb)
  · have nb : b ≠ ce.locals := fun z => nC (by rw [← z]; exact hb)
    have e : (s.heap.update ce.locals (fun _ => o2)).get? b = some o := e
    rw [sO b nb] at e
    obtain ⟨sl, q⟩ := ub.slot b o e hb
    have d0 := hstk b hb o e
    obtain ⟨sl1, q1⟩ := up1 b _ q d0
    have q2 : h2.get? b = some { o with slots := sl1 } := by rw [sb.2 b nb]; exact q1
    obtain ⟨sl2, q3⟩ := up4 b _ q2 d0
    exact ⟨sl2, q3⟩
  · by_cases z : b = ce.locals
    · rw [z]; exact ub.free _ _ ho f0
    · have e : (s.heap.update ce.locals (fun _ => o2)).get? b = some o := e
      rw [sO b z] at e
      exact ub.free b o e n
  · by_cases z : b = ce.locals
    · rw [z]; exact ⟨_, bC⟩
    · have e : (s.heap.update ce.locals (fun _ => o2)).get? b = some o := e
      rw [sO b z] at e
      obtain ⟨o', q⟩ := ub.there b o e hb
      exact ⟨o', bB b o' z q⟩
end

/-- the context of a block whose step may raise -/
abbrev _root_.L2.Cx.blkE (X : Cx) (s : Shared) (H : Hp) (scope : Scope) (cenv : Env) (fp : List Addr) (xe : Value → Shared → Prop) : Cx := { X.blk s H scope cenv fp with xe := xe }
theorem inv_xe {X : Cx} {pins : List (Addr × Obj)} {σ : L2.St} {H : Hp} {s : Shared} {xe : Value → Shared → Prop} (I : Inv X pins σ H s) : Inv { X with xe := xe } pins σ H s :=
  ⟨⟨I.ok.mod, I.ok.kind, I.ok.glob, I.ok.blt, I.ok.above, I.ok.inj, I.ok.has, I.ok.cab, I.ok.hd, I.ok.frames, I.ok.stk, I.ok.exf, I.ok.bs, I.ok.bsz, I.ok.noex, I.ok.exfs, I.ok.funs, I.ok.frf⟩, I.os, I.bare, I.base, I.loc, I.cell, I.free, I.freeC, I.pin, I.hok, I.len⟩
section
variable {X : Cx}
/-- what a step may let out -/
def Lets (X : Cx) (E : XK) (s : Shared) (H : Hp) (scope : Scope) (cenv : Env) (fp : List Addr) (xe : Value → Shared → Prop) : Prop :=
  ∀ E' : XK, (∀ cls d H', E' cls d H' → E cls d H') → Passes (L2.CX X.prog X.w) (X.blkE s H scope cenv fp xe) E'
theorem lc_coreX {W : WX} {E : XK} {pins : List (Addr × Obj)} {s : Shared} {σ : L2.St} {H : Hp} {Q : VK} {elt tg iter : Expr} {ifs : List Expr} {scope : Scope} {own : List (Str × Nat)} {pos pos' : Pos} {wi : TI} {g : TG} {tt : TT} {te : TE} {use : Option (Value → Sem Unit)} {Qf : Value → Shared → Prop}
    (hstk : X.stack = X.env :: X.outer) (hfr : X.env.frame = some X.env.locals) (tk : Takes X W) (hW : ∀ cls d σ H, E cls d H → W cls d σ H)
    (hc : X.calm = true) (hN : X.N.Nodup) (I : Inv X pins σ H s) (hi : PI X tg iter wi) (ok : BlkOk X.N X.env.scope scope own)
    (hg : ∀ (s : Shared) (H : Hp) (C : Addr) (cl : List (Str × Addr)) (fp : List Addr) (xe : Value → Shared → Prop), PG (X.blkE s H scope (compEnvC scope cl C X.env) fp xe) tg g) (ht : ∀ (s : Shared) (H : Hp) (C : Addr) (cl : List (Str × Addr)) (fp : List Addr) (xe : Value → Shared → Prop), PTs (X.blkE s H scope (compEnvC scope cl C X.env) fp xe) ifs tt)
    (he : ∀ (s : Shared) (H : Hp) (C : Addr) (cl : List (Str × Addr)) (fp : List Addr) (xe : Value → Shared → Prop), Lets X E s H scope (compEnvC scope cl C X.env) fp xe → PE (X.blkE s H scope (compEnvC scope cl C X.env) fp xe) elt te) (hs : ∀ x, foldedSetIterable iter X.env x = pure x)
    (h : tLc wi g tt te (own.map (·.2)) σ H Q)
    (hRR : ∀ D (ce : Env) s' m H', Inv X pins σ H' s' → Q (.ref D) H' → s'.heap.Ns ce.locals m → FpOk X pins H' ce.locals → postX (model X.prog X.w) X.A X.xe use Qf (.ref D) ce (.ok .next) s') :
    wpAny (model X.prog X.w) X.A (comprehension (.ListComp elt [⟨tg, iter, ifs, 0⟩] scope pos) scope X.env pos' (newList []) false (eval iter X.env) use) Qf X.xe s := by
  have hfree : ∀ y ∈ scope.names, y.2 = .free → ∃ c, X.env.cells.lookup y.1 = some c := fun y hy e => by
    rcases ok.free y hy e with k | k
    · exact I.ok.has _ (.inl k)
    · exact I.ok.has _ (.inr k)
  refine comp_freeX (use := use) rfl hs (closure_ok hfree) ok.kind (fun y hy e => by rw [ok.uniq y hy, e])
    (thn (hi.run pins s σ H _ I h) fun xv s1 hx => thn hx fun itv s2 h2 => ?_)
  obtain ⟨it, fp, tn, J, H2, e, I2, T, st2, f2, q⟩ := h2
  subst e
  refine wpAny_newObj_type (newEnv_comp ?_) (by show 0 ≤ sizeLine; decide)
  generalize hD : s2.heap.objs.size = D
  have hDn : H2 D = none := I2.hok.fresh (Nat.le_of_eq hD)
  obtain ⟨W1, ⟨m0, w0⟩, turn⟩ := q D hDn
  generalize hs3 : ({ s2 with heap := s2.heap.push { cls := .type "list", data := .seq ([] : List Value).toArray } } : Shared) = s3
  have I3 : Inv X pins σ (upd H2 D (.lst [])) s3 := by
    rw [← hs3]
    refine I2.laid (t' := s2.toks) (fun b o e => Heap.get?_push_of_some _ e) (Nat.le_of_eq hD) ⟨Nat.zero_le _, [], 0, .nil, ?_⟩
    rw [← hD]
    exact Heap.get?_push_size _ rfl
  have h3 : s3.heap = s2.heap.push { cls := .type "list", data := .seq ([] : List Value).toArray } := by rw [← hs3]
  have sz : ∀ b ∈ fp, b < s2.heap.objs.size := fun b hb => by
    obtain ⟨o, e, _⟩ := T.obj _ _ st2 b hb
    exact Heap.lt_size e
  have f3 : ∀ b ∈ fp, FpOk X pins (upd H2 D (.lst [])) b ∧ b < s3.heap.objs.size := fun b hb => by
    have hlt := sz b hb
    refine ⟨⟨?_, (f2 b hb).2⟩, by rw [h3, Heap.size_push]; exact Nat.lt_succ_of_lt hlt⟩
    rw [upd_ne (by rw [← hD]; exact Nat.ne_of_lt hlt)]
    exact (f2 b hb).1
  have st3 : tn 0 s3.heap := T.keep _ _ _ st2 fun b _ o e => by rw [h3]; exact Heap.get?_push_of_some _ e
  have I40 := block_start I3 ok hN f3
  generalize hce : compEnvC scope (cellsFrom (s3.heap.objs.size + 1) scope.names (cloFrom X.env.cells scope.names [])) s3.heap.objs.size X.env = ce at I40
  have cL : ce.locals = s3.heap.objs.size := by subst hce; rfl
  have cF : ce.frame = X.env.frame := by subst hce; rfl
  generalize hxe : (fun (u : Value) (s' : Shared) => ∃ (H : Hp) (s : Shared), Inv X pins σ H s ∧ FpOk X pins H ce.locals ∧ (∃ m, s.heap.Ns ce.locals m) ∧ L2.CX X.prog X.w X.stack H s E u s') = xe
  have I4 : Inv (X.blkE s3 (upd H2 D (.lst [])) scope ce fp xe) [] (wipe σ (own.map (·.2))) (upd H2 D (.lst [])) { s3 with heap := pushCells (s3.heap.push { cls := .type "dict", data := .dict #[] }) scope.names } := inv_xe I40
  have toX : ∀ {pins' : List (Addr × Obj)} {σ' : L2.St} {H' : Hp} {s' : Shared}, Inv (X.blkE s3 (upd H2 D (.lst [])) scope ce fp xe) pins' σ' H' s' → Inv X pins σ H' s' ∧ FpOk X pins H' ce.locals ∧ ∃ m, s'.heap.Ns ce.locals m := fun {pins' σ' H' s'} I6 => by
    have I7 : Inv X pins σ H' s' := I3.call' (ch := fp) I6.os I6.base I6.hok I6.bare fun b hb => ⟨(f3 b hb).1.2.2.2.1, (f3 b hb).1.2.1, (f3 b hb).1.2.2.2.2.1, (f3 b hb).1.2.2.2.2.2⟩
    have nC : H' s3.heap.objs.size = none := by
      have z : H' ce.locals = none := I6.free
      rw [cL] at z
      exact z
    obtain ⟨m, hn, _⟩ := I6.loc
    exact ⟨I7, by rw [cL]; exact I3.fpOk (Nat.le_refl _) nC, m, hn⟩
  have lets : Lets X E s3 (upd H2 D (.lst [])) scope ce fp xe := fun E' hE pins' σ' H' s' e s'' I6 c => by
    obtain ⟨I7, f7, n7⟩ := toX I6
    rw [← hxe]
    obtain ⟨a, B, H1, cls, d, r1, r2, r3, r4, r5, r6, r7, r8⟩ := c
    exact ⟨H', s', I7, f7, n7, a, B, H1, cls, d, r1, r2, r3, r4, r5, r6, r7, hE _ _ _ r8⟩
  have pg := hg s3 (upd H2 D (.lst [])) s3.heap.objs.size (cellsFrom (s3.heap.objs.size + 1) scope.names (cloFrom X.env.cells scope.names [])) fp xe
  have pt := ht s3 (upd H2 D (.lst [])) s3.heap.objs.size (cellsFrom (s3.heap.objs.size + 1) scope.names (cloFrom X.env.cells scope.names [])) fp xe
  have pe := he s3 (upd H2 D (.lst [])) s3.heap.objs.size (cellsFrom (s3.heap.objs.size + 1) scope.names (cloFrom X.env.cells scope.names [])) fp xe
  show codeAny _ _ (.compStart (.ListComp elt [⟨tg, iter, ifs, 0⟩] scope pos) 0 (.ref it) (.ref D) (compEnvC scope (cellsFrom (s3.heap.objs.size + 1) scope.names (cloFrom X.env.cells scope.names [])) s3.heap.objs.size X.env)) (postX (model X.prog X.w) X.A X.xe use Qf (.ref D) (compEnvC scope (cellsFrom (s3.heap.objs.size + 1) scope.names (cloFrom X.env.cells scope.names [])) s3.heap.objs.size X.env)) { s3 with heap := pushCells (s3.heap.push { cls := .type "dict", data := .dict #[] }) scope.names }
  have nfp : ∀ b ∈ fp, (upd H2 D (.lst [])) b = none := fun b hb => (f3 b hb).1.1
  rw [hce] at pg pt pe ⊢
  have pe := pe lets
  clear lets
  generalize hH3 : upd H2 D (.lst []) = H3 at I3 I4 pg pt pe w0 nfp f3 toX
  generalize hs4 : ({ s3 with heap := pushCells (s3.heap.push { cls := .type "dict", data := .dict #[] }) scope.names } : Shared) = s4 at I4 ⊢
  have st4 : tn 0 s4.heap := T.keep _ _ _ st3 fun b _ o e => by rw [← hs4]; exact pushCells_keeps _ _ _ _ (Heap.get?_push_of_some _ e)
  have stat : ∀ {σ' : L2.St} {H' : Hp} {s' : Shared}, Inv (X.blkE s3 H3 scope ce fp xe) [] σ' H' s' → (∀ b ∈ fp, H' b = none) → ∀ b ∈ fp, FpOk (X.blkE s3 H3 scope ce fp xe) [] H' b := fun {σ' H' s'} I' hn b hb =>
    ⟨hn b hb, (I'.ok.exf b hb).1, I'.ok.exfs b hb, .inl hb, fun x c e => (I'.ok.exf b hb).2 x c e, fun p hp => absurd (show p ∈ ([] : List (Addr × Obj)) ++ [] from hp) (by simp)⟩
  -- what is raised in the block
  have err : ∀ (u : Value) (s' : Shared), xe u s' → notedBy (model X.prog X.w) X.A ce (fun e s' => postX (model X.prog X.w) X.A X.xe use Qf (.ref D) ce (.error e) s') u s' := fun u s' z => by
    rw [← hxe] at z
    obtain ⟨H', s0, I', f', n', c⟩ := z
    have r := blk_err (E₁ := fun e s' => postX (model X.prog X.w) X.A X.xe use Qf (.ref D) ce (.error e) s') hstk hfr cF I' f' n' c tk hW
    show wpAny (model X.prog X.w) X.A (noteFrame u ce) (fun _ s'' => postX (model X.prog X.w) X.A X.xe use Qf (.ref D) ce (.error u) s'') _ s'
    refine wpAny_mono r (fun _ s'' z => ?_) fun _ _ z => z
    cases use <;> exact z
  have loop : codeAny (model X.prog X.w) X.A (.compLoop (.ListComp elt [⟨tg, iter, ifs, 0⟩] scope pos) 0 (.ref it) (.ref D) ce) (postX (model X.prog X.w) X.A X.xe use Qf (.ref D) ce) s4 := by
    refine compLoop_any (fun n s' => ∃ i H', Inv (X.blkE s3 H3 scope ce fp xe) [] (wipe σ (own.map (·.2))) H' s' ∧ tn i s'.heap ∧ (∀ b ∈ fp, H' b = none) ∧ W1 i n H') ?_ m0 ⟨0, H3, I4, st4, nfp, w0⟩
    rintro n s5 ⟨i, H5, I5, st5, n5, w5⟩
    rcases turn i n H5 w5 with ⟨stop, qq⟩ | ⟨go, Nx, hNx, step⟩
    · have td := T.done (X.blkE s3 H3 scope ce fp xe) rfl rfl rfl hc i [] s5 _ H5 (fun _ _ => False) I5 (stat I5 n5) st5 stop
      refine thnF td fun r s6 ⟨hr, I6⟩ => ?_
      subst hr
      obtain ⟨I7, f7, m, hn⟩ := toX I6
      exact hRR D ce s6 m H5 I7 qq hn f7
    · have ti := T.item (X.blkE s3 H3 scope ce fp xe) rfl rfl rfl hc i [] s5 _ H5 (fun _ _ => False) I5 (stat I5 n5) st5 go
      refine thnF ti fun r s6 ⟨u, hr, h6⟩ => ?_
      subst hr
      refine thnF h6 fun _ s7 ⟨x, H7, I7, r7, y7, st7, n7⟩ => ?_
      have I7' := I7.pinned (stat I7 n7) (T.obj _ _ st7)
      refine wpAny_mono (pg.run _ s7 _ H7 x u _ I7' r7 (step x H7 y7)) (fun _ s8 ⟨σ8, H8, I8, hw8, q8⟩ => ?_) err
      refine wpAny_mono (pt.run _ s8 σ8 H8 _ I8 q8) (fun b s9 ⟨H9, I9, q9⟩ => ?_) err
      have fin : ∀ {s' : Shared} {H' : Hp}, Inv (X.blkE s3 H3 scope ce fp xe) ([] ++ pinsAt fp s7.heap) σ8 H' s' → Nx H' → ∃ m, m < n ∧ ∃ i H', Inv (X.blkE s3 H3 scope ce fp xe) [] (wipe σ (own.map (·.2))) H' s' ∧ tn i s'.heap ∧ (∀ b ∈ fp, H' b = none) ∧ W1 i m H' := fun {s' H'} I' nx => by
        obtain ⟨m', hm, w'⟩ := hNx H' nx
        have pin' : ∀ b ∈ fp, ∀ o, s7.heap.get? b = some o → s'.heap.get? b = some o ∧ H' b = none := fun b hb o e =>
          let z := I'.pin (b, o) (List.mem_append_right _ (List.mem_append_right _ (mem_pinsAt hb e)))
          ⟨z.1, z.2.1⟩
        have hl : (wipe σ (own.map (·.2))).length = σ8.length := by rw [← hw8, wipe_length]
        refine ⟨m', hm, i + 1, H', (I'.unpinned (pins := [])).weak hl (fun j v e => ?_), T.keep _ _ _ st7 fun b hb o e => (pin' b hb o e).1, fun b hb => ?_, w'⟩
        · rw [← hw8] at e
          exact (wipe_some e).1
        · obtain ⟨o, e, _⟩ := T.obj _ _ st7 b hb
          exact (pin' b hb o e).2
      cases b with
      | false =>
        simp only [Bool.false_eq_true, if_false] at q9 ⊢
        exact fin I9 q9
      | true =>
        simp only [if_true] at q9 ⊢
        refine wpAny_mono (pe.run _ s9 σ8 H9 _ I9 q9) (fun z s10 ⟨yv, H10, I10, r10, acc, hD10, hz10, nx⟩ => ?_) err
        exact app_ok (X := X.blkE s3 H3 scope ce fp xe) I10 hD10 hz10 r10 fun s11 I11 => fin I11 nx
  exact codeAny_compStart_list loop (T.self X.A 0 _ _ _ st4 loop)
/-- as a value -/
theorem pe_lcX {W : WX} {E : XK} {elt tg iter : Expr} {ifs : List Expr} {scope : Scope} {own : List (Str × Nat)} {pos : Pos} {wi : TI} {g : TG} {tt : TT} {te : TE} (hstk : X.stack = X.env :: X.outer) (hfr : X.env.frame = some X.env.locals) (tk : Takes X W) (hW : ∀ cls d σ H, E cls d H → W cls d σ H) (hc : X.calm = true) (hN : X.N.Nodup) (hi : PI X tg iter wi) (ok : BlkOk X.N X.env.scope scope own)
    (hg : ∀ (s : Shared) (H : Hp) (C : Addr) (cl : List (Str × Addr)) (fp : List Addr) (xe : Value → Shared → Prop), PG (X.blkE s H scope (compEnvC scope cl C X.env) fp xe) tg g) (ht : ∀ (s : Shared) (H : Hp) (C : Addr) (cl : List (Str × Addr)) (fp : List Addr) (xe : Value → Shared → Prop), PTs (X.blkE s H scope (compEnvC scope cl C X.env) fp xe) ifs tt)
    (he : ∀ (s : Shared) (H : Hp) (C : Addr) (cl : List (Str × Addr)) (fp : List Addr) (xe : Value → Shared → Prop), Lets X E s H scope (compEnvC scope cl C X.env) fp xe → PE (X.blkE s H scope (compEnvC scope cl C X.env) fp xe) elt te) (hs : ∀ x, foldedSetIterable iter X.env x = pure x := by intro _; rfl) :
    PE X (.ListComp elt [⟨tg, iter, ifs, 0⟩] scope pos) (tLc wi g tt te (own.map (·.2))) := by
  refine ⟨fun pins s σ H Q I h => ?_⟩
  rw [eval_ListComp]
  refine lc_coreX hstk hfr tk hW hc hN I hi ok hg ht he hs h fun D ce s' m H' I' q hn f => ⟨m, hn, fun h'' sb => ?_⟩
  obtain ⟨f0, f1, f2, f3, f4, f5⟩ := f
  exact ⟨.ref D, H', I'.turned (t' := s'.toks) (fun b o hb e => (sb.2 b hb).trans e) f0 f1 f3 f4 f5, rfl, q⟩
/-- name = [..] on one line, the name a local -/
theorem ps_setLcX {W : WX} {E : XK} {i : Nat} {y : Str} {py : Pos} {elt tg iter : Expr} {ifs : List Expr} {scope : Scope} {own : List (Str × Nat)} {pos spos : Pos} {wi : TI} {g : TG} {tt : TT} {te : TE} (hstk : X.stack = X.env :: X.outer) (hfr : X.env.frame = some X.env.locals) (tk : Takes X W) (hW : ∀ cls d σ H, E cls d H → W cls d σ H) (hc : X.calm = true) (hN : X.N.Nodup) (hy : X.N[i]? = some y) (hyl : X.env.scope.names.lookup y = some .local)
    (hsw : swapsWith (.ListComp elt [⟨tg, iter, ifs, 0⟩] scope pos) (some (.Name y py)) spos.line X.env = pure true) (hi : PI X tg iter wi) (ok : BlkOk X.N X.env.scope scope own)
    (hg : ∀ (s : Shared) (H : Hp) (C : Addr) (cl : List (Str × Addr)) (fp : List Addr) (xe : Value → Shared → Prop), PG (X.blkE s H scope (compEnvC scope cl C X.env) fp xe) tg g) (ht : ∀ (s : Shared) (H : Hp) (C : Addr) (cl : List (Str × Addr)) (fp : List Addr) (xe : Value → Shared → Prop), PTs (X.blkE s H scope (compEnvC scope cl C X.env) fp xe) ifs tt)
    (he : ∀ (s : Shared) (H : Hp) (C : Addr) (cl : List (Str × Addr)) (fp : List Addr) (xe : Value → Shared → Prop), Lets X E s H scope (compEnvC scope cl C X.env) fp xe → PE (X.blkE s H scope (compEnvC scope cl C X.env) fp xe) elt te) (hs : ∀ x, foldedSetIterable iter X.env x = pure x := by intro _; rfl) :
    PS X (.Assign [.Name y py] (.ListComp elt [⟨tg, iter, ifs, 0⟩] scope pos) spos) (tAsg (tLc wi g tt te (own.map (·.2))) (gName i)) := by
  refine ⟨fun pins s σ H D I h => ?_⟩
  rw [exec_Assign_Name_used _ _ _ _ hsw]
  refine wpAny_bind (wpAny_standAt (wpAny_bind ?_))
  show wpAny _ X.A (do let _ ← comprehension (.ListComp elt [⟨tg, iter, ifs, 0⟩] scope pos) scope X.env (firstIterPos [⟨tg, iter, ifs, 0⟩] pos) (newList []) false (eval iter X.env) (some (assign (.Name y py) X.env))) _ _ s
  have h : tLc wi g tt te (own.map (·.2)) σ H (fun x H1 => gName i x σ H1 D.nx) := h
  refine wpAny_bind (thn (lc_coreX (Qf := fun _ s' => SP X pins D .next s') hstk hfr tk hW hc hN I hi ok hg ht he hs h fun L ce s' m H' I' q hn f => ?_) fun _ s' hq => wpAny_pure (wpAny_pure hq))
  show wpAny _ _ (assign (.Name y py) X.env (.ref L)) _ _ _
  refine wpAny_assign_Name (store_ok2 (v := V.ref L) I' hN hy (.inl hyl) rfl (fun s2 I2 ⟨a, sb, ha⟩ => ?_) (.inr hyl))
  obtain ⟨f0, f1, f2, f3, f4, f5⟩ := f
  have haC : ce.locals ≠ a := by
    rcases ha with z | z
    · rw [z]; exact f1
    · exact fun e => f4 y a z e.symm
  refine ⟨m, hn.sameBut sb haC, fun h3 sb3 => ?_⟩
  exact ⟨_, H', I2.turned (t' := s2.toks) (fun b o hb e => (sb3.2 b hb).trans e) f0 f1 f3 f4 f5, q⟩
end
end UcX

/-! isinstance of a kept error by a tuple of classes; a walk over one of two kinds; a block within a block; dicts of the top -/
namespace UcX
open PySem PySem.Spec PySem.Calls PyProof.Rows L2 KwX EvG
section
variable {X : Cx}
def rAskT (K : PySem.W.Frag) : List V → Hp → VK → Prop := fun xs H Q => ∃ (a tp C : Addr) (fs : List (Str × V)) (cs : List V) (us : List Value) (b : Bool), xs = [.ref a, .ref tp] ∧ H tp = some (.tup cs) ∧ Paired ClsV cs us ∧ EvX.AskC K C ∧ Kept1 C a fs H ∧ PySem.W.kitAny K (.ref C) us = some b ∧ Q (.bl b) H
theorem call_askT : CallR X (.builtin "isinstance") (rAskT X.K) := by
  intro pins s σ H xs us Q I r h
  obtain ⟨a, tp, C, fs, cs, ws, b, rfl, hT, k, T, kp, e, q⟩ := h
  obtain ⟨oe, od, mA, J, _, _⟩ := kept_inst I kp
  obtain ⟨cd, hc, _⟩ := PySem.W.any_some T.hd
  have own : (PySem.W.clsIn X.K C).isSome = true := by
    rw [hc]
    rfl
  obtain ⟨u1, u2, rfl, r1, r2⟩ := vals2 r
  cases (show u1 = Value.ref a from r1)
  cases (show u2 = Value.ref tp from r2)
  obtain ⟨_, its, rv, o, h1, h2, n, h3⟩ := (show ObjOk X.prog X.w H s.heap tp (.tup cs) from I.hok tp _ hT)
  have e3 := ClsV.all k rv
  subst e3
  obtain ⟨oc, od', dt, sl⟩ := o
  simp only at h2 h3
  subst h2 h3
  exact PySem.W.kia_tup (PySem.W.kitx_exc own T.ga T.gg T.exC T.ca T.cn T.ct T.cm) I.kIn J h1 e (fun z => nomatch z) fun tk => ⟨.bl b, H, I.kept (t' := tk) fun _ _ z => z, rfl, q⟩
/-- for .. in e, e a list or a tuple -/
def iOr (w1 w2 : TI) : TI := fun σ H R => w1 σ H R ∨ w2 σ H R
theorem pi_or {tg e : Expr} {w1 w2 : TI} (h1 : PI X tg e w1) (h2 : PI X tg e w2) : PI X tg e (iOr w1 w2) := by
  refine ⟨fun pins s σ H R I h => ?_⟩
  rcases h with h | h
  · exact h1.run pins s σ H R I h
  · exact h2.run pins s σ H R I h
end
theorem blk_own {N : List Str} {sc scope : Scope} {own : List (Str × Nat)} (h : (blkC N { scope with names := [] } scope own && scope.names.all fun y => match y.2 with | .free => false | _ => true) = true) : BlkOk N sc scope own := by
  obtain ⟨h1, h2⟩ := Bool.and_eq_true_iff.mp h
  have b := blkOk_by h1
  refine ⟨b.kind, b.uniq, b.ix, fun y hy e => ?_, b.own⟩
  have q := List.all_eq_true.mp h2 y hy
  rw [e] at q
  cases q
/-! a dict of the top: texts to ints -/
def siOf (e : DictEntry) : Option (Str × Int) := match e.key, e.val with
  | .str x _, .int i _ => some (x, i)
  | _, _ => none
theorem find_si : ∀ {l : List DictEntry} {ps : List (Str × Int)}, l.map siOf = ps.map some → ∀ z : Str,
    (∃ i t, ps.lookup z = some i ∧ ∃ e, l.find? (·.key.isStr z) = some e ∧ e.val = .int i t) ∨ (ps.lookup z = none ∧ l.find? (·.key.isStr z) = none ∧ l.any (·.refKey) = false)
  | [], [], _, z => .inr ⟨rfl, rfl, rfl⟩
  | [], _ :: _, h, _ => by cases h
  | _ :: _, [], h, _ => by cases h
  | e :: r, p :: ps, h, z => by
    rw [List.map_cons, List.map_cons] at h
    injection h with h1 h2
    have ih := find_si h2 z
    unfold siOf at h1
    split at h1
    · rename_i x t i t' ek ev
      have q := Option.some.inj h1
      subst q
      by_cases hz : x = z
      · subst hz
        refine .inl ⟨i, t', by simp [List.lookup_cons], e, ?_, ev⟩
        rw [List.find?_cons]
        have : e.key.isStr x = true := by rw [ek]; simp [Value.isStr]
        rw [this]
      · have n1 : (z == x) = false := by simpa using fun w => hz w.symm
        have n2 : e.key.isStr z = false := by rw [ek]; simpa [Value.isStr] using hz
        have n3 : e.refKey = false := by unfold DictEntry.refKey; rw [ek]
        rw [List.lookup_cons, n1, List.find?_cons, n2, List.any_cons, n3, Bool.false_or]
        exact ih
    · cases h1
/-- the dict at d of the top: texts to ints -/
structure KSi (K : PySem.W.Frag) (w : World) (d : Addr) (ps : List (Str × Int)) : Prop where
  ex : ∃ es n, KDict K w d es n ∧ es.toList.map siOf = ps.map some
theorem KSi.look {K : PySem.W.Frag} {w : World} {d : Addr} {ps : List (Str × Int)} (h : KSi K w d ps) (z : Str) : ∃ es n, KDict K w d es n ∧
    ((∃ i u, ps.lookup z = some i ∧ PySem.W.nsIn K d z = some (some u) ∧ RelV (.int i) u) ∨ (ps.lookup z = none ∧ PySem.W.nsIn K d z = some none)) := by
  obtain ⟨es, n, D, hm⟩ := h
  refine ⟨es, n, D, ?_⟩
  have e : PySem.W.nsIn K d z = (match es.toList.find? (·.key.isStr z) with
      | some e => some (some e.val)
      | none => if es.toList.any (·.refKey) then none else some none) := by unfold PySem.W.nsIn; rw [D.at_]; rfl
  rcases find_si hm z with ⟨i, t, h1, x, h2, h3⟩ | ⟨h1, h2, h3⟩
  · exact .inl ⟨i, .int i t, h1, by rw [e, h2]; show some (some x.val) = _; rw [h3], ⟨t, rfl⟩⟩
  · exact .inr ⟨h1, by rw [e, h2, h3]; rfl⟩
section
variable {X : Cx} {d : Addr} {ps : List (Str × Int)}
theorem op_notIn_si (h : KSi X.K X.w d ps) : OpR X (compareOp .NotIn) (fun x y H Q => ∃ z : Str, x = .str z ∧ y = .ref d ∧ Q (.bl (!(ps.lookup z).isSome)) H) := by
  intro pins s σ H x y v u Q I rx ry q
  obtain ⟨z, ex, ey, q⟩ := q
  obtain ⟨es, n, D, l⟩ := h.look z
  rcases l with ⟨i, u0, h1, h2, h3⟩ | ⟨h1, h2⟩
  · exact op_notIn_kd D pins s σ H x y v u Q I rx ry ⟨z, _, ex, ey, h2, by rw [h1] at q; exact q⟩
  · exact op_notIn_kd D pins s σ H x y v u Q I rx ry ⟨z, _, ex, ey, h2, by rw [h1] at q; exact q⟩
theorem ix_si (h : KSi X.K X.w d ps) : IxR X (fun x y H Q => ∃ (z : Str) (i : Int), x = .ref d ∧ y = .str z ∧ ps.lookup z = some i ∧ Q (.int i) H) := by
  intro value slice pins s σ H x y v u Q I rx ry q hs
  obtain ⟨z, i, ex, ey, e, q⟩ := q
  obtain ⟨es, n, D, l⟩ := h.look z
  rcases l with ⟨j, u0, h1, h2, h3⟩ | ⟨h1, h2⟩
  · rw [e] at h1
    cases h1
    exact ix_kdict value slice pins s σ H x y v u Q I rx ry ⟨d, z, .int i, ex, ey, ⟨es, n, u0, D.at_, D.lit, h2, h3⟩, q⟩ hs
  · rw [e] at h1
    cases h1
end
/-! within a block: the written part by its own name -/
section
variable {X : Cx}
theorem pe_joinK {K : PySem.W.Frag} (hK : X.K = K) {o e : Expr} {to te : TE} {apos pos : Pos} (ho : PE X o to) (he : PE X e te) (hs : starEach [e] X.env = [(false, eval e X.env)] := by rfl) (hbase : attributeBase o "join" X.env (eval o X.env) = eval o X.env := by rfl) (hline : (apos.endLine == pos.line) = true := by rfl) :
    PE X (.Call (.Attribute o "join" apos) [e] [] pos) (tM1 (rJoin K) to te) := by
  subst hK
  exact pe_joinJ ho he hs hbase hline
theorem pi_tupK {K : PySem.W.Frag} (hK : X.K = K) {tg l : Expr} {tl : TE} (h : PE X l tl) : PI X tg l (iTup K tl) := by
  subst hK
  exact pi_tup h
end
/-! readings -/
section
theorem g_star {K : PySem.W.Frag} {te : TE} {t : TA} {σ : L2.St} {H : Hp} {Q : List V → Hp → Prop} (h : te σ H fun x H1 => ∃ p xs, x = V.ref p ∧ (SqT K H1 p xs ∨ SqL K H1 p xs) ∧ t σ H1 fun ys H2 => Q (xs ++ ys) H2) : StX.tStar K te t σ H Q := h
theorem g_or1 {w1 w2 : TI} {σ : L2.St} {H : Hp} {R : It → Hp → Prop} (h : w1 σ H R) : iOr w1 w2 σ H R := .inl h
theorem g_or2 {w1 w2 : TI} {σ : L2.St} {H : Hp} {R : It → Hp → Prop} (h : w2 σ H R) : iOr w1 w2 σ H R := .inr h
end
end UcX

namespace K24
open PySem PySem.Spec PyProof.Rows L2 EvG EvX VecX KwX UcX
def top (i : Nat) : Stmt := PySem.Challenge.pw_evenends_k24_texts_of_stories.main.body.getD i (.Pass ⟨0, 0, 0, 0⟩)
abbrev s_is_name : Stmt := (top 7)
abbrev N_is_name : List Str := ["value"]
theorem sc_is_name : FnScope N_is_name ["value"] (defScope s_is_name) := ⟨rfl, rfl, rfl, by decide +kernel, rfl, by decide +kernel, by decide +kernel⟩
abbrev s_lines_of : Stmt := (top 11)
abbrev N_lines_of : List Str := ["text", "index", "row"]
theorem sc_lines_of : FnScope N_lines_of ["text"] (defScope s_lines_of) := ⟨rfl, rfl, rfl, by decide +kernel, rfl, by decide +kernel, by decide +kernel⟩
abbrev s_read_number : Stmt := (top 12)
abbrev N_read_number : List Str := ["word", "most", "digits"]
theorem sc_read_number : FnScope N_read_number ["word", "most"] (defScope s_read_number) := ⟨rfl, rfl, rfl, by decide +kernel, rfl, by decide +kernel, by decide +kernel⟩
abbrev s_story_text : Stmt := (top 14)
abbrev N_story_text : List Str := ["deeds", "part", "deed"]
theorem sc_story_text : FnScope N_story_text ["deeds"] (defScope s_story_text) := ⟨rfl, rfl, rfl, by decide +kernel, rfl, by decide +kernel, by decide +kernel⟩
abbrev s_read_story : Stmt := (top 15)
abbrev N_read_story : List Str := ["text", "line"]
theorem sc_read_story : FnScope N_read_story ["text"] (defScope s_read_story) := ⟨rfl, rfl, rfl, by decide +kernel, rfl, by decide +kernel, by decide +kernel⟩
abbrev s_read_deed : Stmt := (top 16)
abbrev N_read_deed : List Str := ["line", "word", "size", "parts", "at"]
theorem sc_read_deed : FnScope N_read_deed ["line"] (defScope s_read_deed) := ⟨rfl, rfl, rfl, by decide +kernel, rfl, by decide +kernel, by decide +kernel⟩
abbrev s_law_pen : Stmt := (top 18)
abbrev N_law_pen : List Str := ["_law_script"]
theorem sc_law_pen : FnScope N_law_pen ["_law_script"] (defScope s_law_pen) := ⟨rfl, rfl, rfl, by decide +kernel, rfl, by decide +kernel, by decide +kernel⟩
abbrev s_law_draw : Stmt := (top 19)
abbrev N_law_draw : List Str := ["_law_pen_here", "_law_many", "_law_digit", "_law_at", "_law_cell", "_law_great", "_law_mixed"]
theorem sc_law_draw : FnScope N_law_draw ["_law_pen_here", "_law_many"] (defScope s_law_draw) := ⟨rfl, rfl, rfl, by decide +kernel, rfl, by decide +kernel, by decide +kernel⟩
abbrev s_law_pick : Stmt := (top 20)
abbrev N_law_pick : List Str := ["_law_pen_here", "_law_some"]
theorem sc_law_pick : FnScope N_law_pick ["_law_pen_here", "_law_some"] (defScope s_law_pick) := ⟨rfl, rfl, rfl, by decide +kernel, rfl, by decide +kernel, by decide +kernel⟩
abbrev s_law_word : Stmt := (top 21)
abbrev N_law_word : List Str := ["_law_pen_here", "_law_many", "_law_k"]
theorem sc_law_word : FnScope N_law_word ["_law_pen_here"] (defScope s_law_word) := ⟨rfl, rfl, rfl, by decide +kernel, rfl, by decide +kernel, by decide +kernel⟩
abbrev s_law_tag : Stmt := (top 23)
abbrev N_law_tag : List Str := ["_law_pen_here"]
theorem sc_law_tag : FnScope N_law_tag ["_law_pen_here"] (defScope s_law_tag) := ⟨rfl, rfl, rfl, by decide +kernel, rfl, by decide +kernel, by decide +kernel⟩
abbrev s_law_deed : Stmt := (top 24)
abbrev N_law_deed : List Str := ["_law_pen_here", "_law_word_here"]
theorem sc_law_deed : FnScope N_law_deed ["_law_pen_here"] (defScope s_law_deed) := ⟨rfl, rfl, rfl, by decide +kernel, rfl, by decide +kernel, by decide +kernel⟩
abbrev s_law_text : Stmt := (top 25)
abbrev N_law_text : List Str := ["_law_some", "_law_part", "_law_deed_here"]
theorem sc_law_text : FnScope N_law_text ["_law_some"] (defScope s_law_text) := ⟨rfl, rfl, rfl, by decide +kernel, rfl, by decide +kernel, by decide +kernel⟩
abbrev s_law_is_right : Stmt := (top 26)
abbrev N_law_is_right : List Str := ["_law_sort", "_law_word_here", "_law_signs", "_law_sign"]
theorem sc_law_is_right : FnScope N_law_is_right ["_law_sort", "_law_word_here"] (defScope s_law_is_right) := ⟨rfl, rfl, rfl, by decide +kernel, rfl, by decide +kernel, by decide +kernel⟩
abbrev s_law_wrong_line : Stmt := (top 27)
abbrev N_law_wrong_line : List Str := ["_law_words", "_law_sorts", "_law_some", "_law_k"]
theorem sc_law_wrong_line : FnScope N_law_wrong_line ["_law_words"] (defScope s_law_wrong_line) := ⟨rfl, rfl, rfl, by decide +kernel, rfl, by decide +kernel, by decide +kernel⟩
abbrev s_law_due : Stmt := (top 28)
abbrev N_law_due : List Str := ["_law_page", "_law_found", "_law_lines_so", "_law_k", "_law_words", "_law_wrong"]
theorem sc_law_due : FnScope N_law_due ["_law_page"] (defScope s_law_due) := ⟨rfl, rfl, rfl, by decide +kernel, rfl, by decide +kernel, by decide +kernel⟩
abbrev s_law_heard : Stmt := (top 29)
abbrev N_law_heard : List Str := ["_law_value", "_law_caught", "_law_told", "error"]
theorem sc_law_heard : FnScope N_law_heard ["_law_value"] (defScope s_law_heard) := ⟨rfl, rfl, rfl, by decide +kernel, rfl, by decide +kernel, by decide +kernel⟩
abbrev s_law_bent : Stmt := (top 30)
abbrev N_law_bent : List Str := ["_law_pen_here", "_law_lines_so", "_law_some", "_law_odd", "_law_at", "_law_other", "_law_way", "_law_words", "_law_k", "_law_ways"]
theorem sc_law_bent : FnScope N_law_bent ["_law_pen_here", "_law_lines_so"] (defScope s_law_bent) := ⟨rfl, rfl, rfl, by decide +kernel, rfl, by decide +kernel, by decide +kernel⟩
abbrev s_Line___init__ : Stmt := (inClass (top 10) 0)
abbrev N_Line___init__ : List Str := ["self", "index", "text"]
theorem sc_Line___init__ : FnScope N_Line___init__ ["self", "index", "text"] (defScope s_Line___init__) := ⟨rfl, rfl, rfl, by decide +kernel, rfl, by decide +kernel, by decide +kernel⟩
abbrev s_Line_word_at : Stmt := (inClass (top 10) 1)
abbrev N_Line_word_at : List Str := ["self", "at"]
theorem sc_Line_word_at : FnScope N_Line_word_at ["self", "at"] (defScope s_Line_word_at) := ⟨rfl, rfl, rfl, by decide +kernel, rfl, by decide +kernel, by decide +kernel⟩
abbrev s_Line_name_at : Stmt := (inClass (top 10) 2)
abbrev N_Line_name_at : List Str := ["self", "at"]
theorem sc_Line_name_at : FnScope N_Line_name_at ["self", "at"] (defScope s_Line_name_at) := ⟨rfl, rfl, rfl, by decide +kernel, rfl, by decide +kernel, by decide +kernel⟩
abbrev s_Line_name_above : Stmt := (inClass (top 10) 3)
abbrev N_Line_name_above : List Str := ["self", "at", "last", "word"]
theorem sc_Line_name_above : FnScope N_Line_name_above ["self", "at", "last"] (defScope s_Line_name_above) := ⟨rfl, rfl, rfl, by decide +kernel, rfl, by decide +kernel, by decide +kernel⟩
abbrev s_Line_count_at : Stmt := (inClass (top 10) 4)
abbrev N_Line_count_at : List Str := ["self", "at", "number"]
theorem sc_Line_count_at : FnScope N_Line_count_at ["self", "at"] (defScope s_Line_count_at) := ⟨rfl, rfl, rfl, by decide +kernel, rfl, by decide +kernel, by decide +kernel⟩
abbrev s_Line_end_at : Stmt := (inClass (top 10) 5)
abbrev N_Line_end_at : List Str := ["self", "at"]
theorem sc_Line_end_at : FnScope N_Line_end_at ["self", "at"] (defScope s_Line_end_at) := ⟨rfl, rfl, rfl, by decide +kernel, rfl, by decide +kernel, by decide +kernel⟩
abbrev s_InvalidText___init__ : Stmt := (inClass (top 5) 0)
abbrev N_InvalidText___init__ : List Str := ["self", "line", "word"]
theorem sc_InvalidText___init__ : FnScope N_InvalidText___init__ ["self", "line", "word"] (defScope s_InvalidText___init__) := ⟨rfl, rfl, rfl, by decide +kernel, rfl, by decide +kernel, by decide +kernel⟩
abbrev s_law : Stmt := (top 31)
abbrev N_law : List Str := ["_law_script", "_law_pen_here", "_law_turn", "_law_row_so", "_law_k", "_law_page", "_law_lines_so", "_law_again", "_law_some", "_law_bent_here", "_law_odd", "_law_told"]
theorem sc_law : FnScope N_law ["_law_script"] (defScope s_law) := ⟨rfl, rfl, rfl, by decide +kernel, rfl, by decide +kernel, by decide +kernel⟩



local macro_rules
  | `(tactic| walk_at "hlook") => `(tactic| first
    | assumption
    | exact upd_same
    | (refine' look_past ?h1 ?h2; (case h1 => walk_at "hne"); (case h2 => walk_at "hlook")))
local macro_rules
  | `(tactic| walk_at "hne") => `(tactic| first
    | assumption
    | exact Ne.symm (by assumption)
    | (refine' ne_of_none ?h1 ?h2; (case h2 => assumption); (case h1 => walk_at "hlook")))
local macro_rules
  | `(tactic| walk_at "hside") => `(tactic| first
    | exact Or.inl ⟨by decide, by decide⟩
    | exact Or.inr ⟨by decide, by decide⟩
    | exact Or.inl ⟨by omega, by omega⟩
    | exact Or.inr ⟨by omega, by omega⟩
    | (show (0 : Int) < _; first | decide | omega)
    | (show _ ≠ (0 : Int); first | decide | omega)
    | exact ⟨by decide, by decide⟩
    | exact ⟨by omega, by omega⟩
    | exact ⟨by decide, by decide, by decide⟩
    | exact ⟨by decide, by decide, by omega⟩
    | (refine pow3_ok ?_ ?_ ?_ ?_ ?_ ?_ ?_ ?_ ?_ ?_ <;> omega))
local macro_rules
  | `(tactic| walk_at "hs") => `(tactic| first
    | ((with_reducible show Ends.rt _ _ _); (with_reducible refine g_rt ?_))
    | ((with_reducible show Ends.nx _ _ _); (with_reducible refine g_nx ?_))
    | ((with_reducible refine' g_var ?h1 ?h2); (case h1 => rfl))
    | with_reducible refine g_c ?_
    | with_reducible refine g_op ?_
    | with_reducible refine g_cons ?_
    | with_reducible refine g_nil ?_
    | with_reducible refine g_cb ?_
    | with_reducible refine g_I0 ?_
    | with_reducible refine g_asg ?_
    | ((with_reducible refine' g_nameR ?h1 ?h2); (case h1 => first | (dsimp only [List.set]; exact rfl) | exact rfl))
    | with_reducible refine g_ret ?_
    | with_reducible refine g_retN ?_
    | with_reducible refine g_next ?_
    | with_reducible refine g_ifs ?_
    | with_reducible refine g_test ?_
    | with_reducible refine g_B ?_
    | with_reducible refine g_bl ?_
    | with_reducible refine g_un ?_
    | with_reducible refine g_neg ?_
    | with_reducible refine g_intI ?_
    | with_reducible refine g_intB ?_
    | with_reducible refine g_abs ?_
    | with_reducible refine g_call ?_
    | with_reducible refine g_callK ?_
    | with_reducible refine g_and ?_
    | with_reducible refine g_or ?_
    | with_reducible refine g_not ?_
    | with_reducible refine g_andV ?_
    | with_reducible refine g_orV ?_
    | with_reducible refine g_notV ?_
    | with_reducible refine g_ifx ?_
    | with_reducible refine g_tup ?_
    | with_reducible refine g_lst ?_
    | with_reducible refine g_sl ?_
    | with_reducible refine g_part ?_
    | with_reducible refine g_part1 ?_
    | with_reducible refine g_nopart ?_
    | with_reducible refine g_sub ?_
    | with_reducible refine g_drop ?_
    | with_reducible refine g_yes ?_
    | with_reducible refine g_m0 ?_
    | with_reducible refine g_rng1 ?_
    | with_reducible refine g_tyS ?_
    | with_reducible refine g_dnew ?_
    | with_reducible refine g_disp1 ?_
    | with_reducible refine g_true rfl ?_
    | with_reducible refine g_false rfl ?_
    | with_reducible refine g_for ?_
    | with_reducible refine g_lc ?_
    | with_reducible refine g_iL ?_
    | with_reducible refine g_iT ?_
    | with_reducible refine g_iS ?_
    | with_reducible refine g_atS ?_
    | with_reducible refine g_m1 ?_
    | with_reducible refine g_isStr ?_
    | with_reducible refine g_txtB ?_
    | with_reducible refine g_notInS ?_
    | with_reducible refine g_chain ?_
    | with_reducible refine g_newE ?_
    | with_reducible refine g_lstX ?_
    | with_reducible refine g_fld ?_
    | with_reducible refine g_ls ?_
    | ((with_reducible refine g_new ?_ ?_); focus (exact small_of (by simp)))
    | ((with_reducible refine g_new ?_ ?_); focus (decide))
    | ((with_reducible refine g_I ?_ ?_); focus (walk_at "hside"))
    | ((with_reducible refine g_eq ?_ ?_); focus rfl)
    | ((with_reducible refine g_ne ?_ ?_); focus rfl)
    | ((with_reducible refine' g_ixL (SqL.of ?h1) ?h2 ?h3); (case h1 => walk_at "hlook"); (case h2 => rfl))
    | ((with_reducible refine' g_lenL (SqL.of ?h1) ?h2); (case h1 => walk_at "hlook"))
    | ((with_reducible refine' g_setL ?h1 ?h2 ?h3); (case h1 => walk_at "hlook"); (case h2 => rfl)))
local macro_rules
  | `(tactic| walk_at "hx") => `(tactic| repeat (walk_at "hs"))
local macro_rules
  | `(tactic| walk_at "hline") => `(tactic| ((with_reducible refine g_seq ?_); repeat (walk_at "hs")))
local macro_rules
  | `(tactic| walk_at "hgo") => `(tactic| repeat (first | with_reducible refine g_seq ?_ | walk_at "hs"))
local macro_rules
  | `(tactic| walk_at "hm") => `(tactic| repeat (first | with_reducible refine g_seq ?_ | ((with_reducible refine g_modC ?_ ?_); focus (decide); focus (intro x hx0 hx1)) | walk_at "hs"))
open KwX ClX UcX
/-- the pen at q: the cells, at most b draws so far -/
structure Pen (H : Hp) (q : Addr) (b : Nat) : Prop where
  ex : ∃ (c : Addr) (ns : List Int) (z left : Int), H q = some (.lst [.ref c, .int z, .int left]) ∧ H c = some (.lst (ns.map V.int)) ∧ 0 ≤ z ∧ z ≤ b ∧ 0 ≤ left ∧ ns.length ≤ 63
/-- all but q stands -/
structure But (q : Addr) (H H' : Hp) : Prop where
  st : ∀ a o, a ≠ q → H a = some o → H' a = some o
  cl : ∀ c x y, H q = some (.lst [.ref c, x, y]) → ∃ x' y', H' q = some (.lst [.ref c, x', y'])
structure TxtD (mg : Str → Option Value) : Prop where
  int : mg "int" = none
  len : mg "len" = none
  abs : mg "abs" = none
def spDraw : Sp := fun vs H Q _ => ∃ (q : Addr) (m : Int) (b : Nat), vs = [.ref q, .int m] ∧ Pen H q b ∧ b ≤ 100000 ∧ 1 ≤ m ∧ m ≤ 10000000 ∧ ∀ (d : Int) (H' : Hp), 0 ≤ d → d < m → Pen H' q (b + 1) → But q H H' → Q (.int d) H'
theorem pen_ne {H : Hp} {q c : Addr} {ns : List Int} {z left : Int} (h1 : H q = some (.lst [.ref c, .int z, .int left])) (h2 : H c = some (.lst (ns.map V.int))) : c ≠ q := by
  refine ne_of h2 h1 fun e => ?_
  cases ns with
  | nil => cases e
  | cons a r => cases e
theorem fmod_in {x m : Int} (h : 1 ≤ m) : 0 ≤ x.fmod m ∧ x.fmod m < m := by
  rw [Int.fmod_eq_emod_of_nonneg x (by omega)]
  exact ⟨Int.emod_nonneg x (by omega), Int.emod_lt_of_pos x (by omega)⟩
theorem fdiv_in {x m : Int} (h : 1 ≤ m) (hx : 0 ≤ x) : 0 ≤ x.fdiv m := by
  rw [Int.fdiv_eq_ediv_of_nonneg x (by omega)]
  exact Int.ediv_nonneg hx (by omega)
theorem But.self {q : Addr} {H : Hp} : But q H H := ⟨fun _ _ _ e => e, fun _ x y e => ⟨x, y, e⟩⟩
theorem But.trans {q : Addr} {H H1 H2 : Hp} (a : But q H H1) (b : But q H1 H2) : But q H H2 := by
  refine ⟨fun x o n e => b.st x o n (a.st x o n e), fun c x y e => ?_⟩
  obtain ⟨x', y', e'⟩ := a.cl c x y e
  exact b.cl c x' y' e'
theorem But.of {q : Addr} {H H1 : Hp} (a : Same H H1) : But q H H1 := ⟨fun x o _ e => a x o e, fun c x y e => ⟨x, y, a _ _ e⟩⟩
theorem but_upd {q c : Addr} {H : Hp} {x y x' y' : V} (h : H q = some (.lst [.ref c, x, y])) : But q H (upd H q (.lst [.ref c, x', y'])) := by
  refine ⟨fun a u n e => ?_, fun d z w e => ?_⟩
  · rw [upd_ne n]
    exact e
  · rw [h] at e
    cases e
    exact ⟨x', y', upd_same⟩
theorem But.upd {q c : Addr} {H H' : Hp} {x y x' y' : V} (b : But q H H') (h : H' q = some (.lst [.ref c, x, y])) : But q H (L2.upd H' q (.lst [.ref c, x', y'])) := b.trans (but_upd h)
theorem same_new {p : Addr} {H : Hp} {o : HO} (hp : H p = none) : Same H (L2.upd H p o) := fun a u e => by
  rw [upd_ne (ne_of_none e hp)]
  exact e
theorem But.new {q p : Addr} {H H' : Hp} {o : HO} (h : But q H H') (hp : H' p = none) : But q H (L2.upd H' p o) := h.trans (.of (same_new hp))
theorem But.free {q p : Addr} {H H' : Hp} (h : But q H H') (n : p ≠ q) (hp : H' p = none) : H p = none := by
  cases e : H p with
  | none => rfl
  | some o =>
    rw [h.st p o n e] at hp
    cases hp
theorem at_fmod {ns : List Int} (h : ns ≠ []) (x : Int) : ∃ v, atI (ns.map V.int) (x.fmod ((ns.map V.int).length : Int)) = some (.int v) := by
  have hl : 0 < ns.length := List.length_pos_iff.mpr h
  obtain ⟨h0, h1⟩ := fmod_in (x := x) (m := ((ns.map V.int).length : Int)) (by rw [List.length_map]; omega)
  obtain ⟨j, hj⟩ : ∃ j : Nat, x.fmod ((ns.map V.int).length : Int) = (j : Int) := ⟨(x.fmod ((ns.map V.int).length : Int)).toNat, by omega⟩
  rw [hj]
  rw [hj, List.length_map] at h1
  have hlt : j < ns.length := by omega
  refine ⟨ns[j], ?_⟩
  refine atI_nat ?_
  rw [List.getElem?_map, List.getElem?_eq_getElem hlt]
  rfl
section
variable {P : Program} {w : World} {K : PySem.W.Frag} {mg : Str → Option Value} {base : Heap}
theorem ok_law_draw {f : Addr} {fd : FuncData} (F : Fun K "_law_draw" "_law_draw" s_law_draw f fd) (T : TxtD mg) : FnOk P w K mg base CX0 1 f fd ["_law_pen_here", "_law_many"] spDraw := by
  refine F.ok sc_law_draw (fun vs H Q E h => ?_) (fun cdv A outer s H vs Q E hr h => ?_)
  · obtain ⟨q, m, b, rfl, _⟩ := h
    rfl
  · obtain ⟨q, m, b, rfl, ⟨c, ns, z, left, hq, hc, z0, zb, l0, len⟩, hb, m1, m2, k⟩ := h
    have hu := hu_of hr
    have ncq : c ≠ q := pen_ne hq hc
    have fm := fun x : Int => fmod_in (x := x) m1
    refine ⟨_, (pss_cons (ps_if (pt_cmpR op_gt (pe_ix ix_list (pv 0) pe_int (fun _ _ => rfl)) pe_int (nomark _)) (pss_cons (ps_set (i := 2) sc_law_draw.nd rfl (Or.inl rfl) (pe_op op_modN (pe_callTy call_intI (by rfl) T.int (by decide +kernel) (pa_cons (pe_ix ix_list (pv 0) pe_int (fun _ _ => rfl)) pa_nil)) (pv 1)))
      (pss_cons (ps_asg (pe_op op_fdivN (pe_callTy call_intI (by rfl) T.int (by decide +kernel) (pa_cons (pe_ix ix_list (pv 0) pe_int (fun _ _ => rfl)) pa_nil)) (pv 1)) (pg_sub (pv 0) pe_int set_list))
      (pss_one (ps_ret (pv 2))))) pss_nil)
      (pss_cons (ps_set (i := 3) sc_law_draw.nd rfl (Or.inl rfl) (pe_ix ix_list (pv 0) pe_int (fun _ _ => rfl)))
      (pss_cons (ps_asg (pe_op op_add (pv 3) pe_int) (pg_sub (pv 0) pe_int set_list))
      (pss_cons (ps_set (i := 4) sc_law_draw.nd rfl (Or.inl rfl) (pe_op op_add (pe_op op_mul pe_int (pv 3)) pe_int))
      (pss_cons (ps_if (pt_cmpR (op_neD (hr.units)) (pe_ix ix_list (pv 0) pe_int (fun _ _ => rfl)) (pe_lst pa_nil) (nomark _)) (pss_one (ps_set (i := 4) sc_law_draw.nd rfl (Or.inl rfl) (pe_ix ix_list (pe_ix ix_list (pv 0) pe_int (fun _ _ => rfl)) (pe_op op_modN (pe_callTy call_intI (by rfl) T.int (by decide +kernel) (pa_cons (pv 3) pa_nil)) (pe_callB call_lenL (by rfl) T.len (by decide +kernel) (pa_cons (pe_ix ix_list (pv 0) pe_int (fun _ _ => rfl)) pa_nil))) (fun _ _ => rfl)))) pss_nil)
      (pss_cons (ps_if (PW.pt (pw_and (pt_cmpR op_lt (pv 3) (pe_callB call_lenL (by rfl) T.len (by decide +kernel) (pa_cons (pe_ix ix_list (pv 0) pe_int (fun _ _ => rfl)) pa_nil)) (nomark _)) (pw_and1 (pt_cmpR op_ge (pe_callB call_absI (by rfl) T.abs (by decide +kernel) (pa_cons (pv 4) pa_nil)) (pe_op op_pow pe_int pe_int) (nomark _))))) (pss_cons (ps_set (i := 5) sc_law_draw.nd rfl (Or.inl rfl) (pe_op op_add (pe_op op_mul pe_int (pe_op op_sub (pe_callB call_absI (by rfl) T.abs (by decide +kernel) (pa_cons (pv 4) pa_nil)) (pe_op op_pow pe_int pe_int))) (pe_callTy call_intB (by rfl) T.int (by decide +kernel) (pa_cons (pe_cmpR op_lt (pv 4) pe_int (nomark _)) pa_nil))))
      (pss_cons (ps_asg (pe_op op_fdivN (pe_callTy call_intI (by rfl) T.int (by decide +kernel) (pa_cons (pv 5) pa_nil)) (pv 1)) (pg_sub (pv 0) pe_int set_list))
      (pss_one (ps_ret (pe_op op_modN (pe_callTy call_intI (by rfl) T.int (by decide +kernel) (pa_cons (pv 5) pa_nil)) (pv 1)))))) pss_nil)
      (pss_cons (ps_set (i := 6) sc_law_draw.nd rfl (Or.inl rfl) (pe_op op_mod (pe_callTy call_intI (by rfl) T.int (by decide +kernel) (pa_cons (pe_op op_pow (pe_op op_add (pe_op op_add (pe_op op_mod (pe_callTy call_intI (by rfl) T.int (by decide +kernel) (pa_cons (pv 4) pa_nil)) pe_int) (pe_op op_mul pe_int (pv 3))) pe_int) pe_int) pa_nil)) pe_int))
      (pss_cons (ps_set (i := 6) sc_law_draw.nd rfl (Or.inl rfl) (pe_op op_mod (pe_callTy call_intI (by rfl) T.int (by decide +kernel) (pa_cons (pe_op op_pow (pe_op op_add (pe_op op_add (pe_op op_mul (pv 6) (pe_op op_add (pe_op op_mul pe_int (pv 3)) pe_int)) (pe_op op_mul (pe_op op_mul pe_int (pv 3)) (pv 3))) pe_int) pe_int) pa_nil)) pe_int))
      (pss_one (ps_ret (pe_op op_modN (pe_callTy call_intI (by rfl) T.int (by decide +kernel) (pa_cons (pe_op op_fdiv (pv 6) pe_int) pa_nil)) (pv 1)))))))))))), ?_⟩
    dsimp only [cxOf]
    walk_at "hgo"
    refine ite2 (fun c1 => ?_) (fun c1 => ?_)
    · walk_at "hgo"
      refine k _ _ (fm _).1 (fm _).2 ⟨c, ns, z, _, upd_same, look_past ncq hc, z0, by omega, fdiv_in m1 l0, len⟩ (but_upd hq)
    · walk_at "hx"
      walk_at "hline"
      walk_at "hline"
      walk_at "hline"
      refine g_cut (fun σ' H' => ∃ cell, σ' = [some (.ref q), some (.int m), none, some (.int z), some (.int cell), none, none] ∧ H' q = some (.lst [.ref c, .int (z + 1), .int left]) ∧ H' c = some (.lst (ns.map V.int)) ∧ But q H H') ?_ ?_
      · rintro σ' H2 ⟨cell, rfl, hq2, hc2, bt⟩
        clear hq hc
        refine g_cut (fun σ' H' => σ' = [some (.ref q), some (.int m), none, some (.int z), some (.int cell), none, none] ∧ H' = H2) ?_ ?_
        · rintro σ' H' ⟨rfl, rfl⟩
          walk_at "hm"
          refine k _ _ (fm _).1 (fm _).2 ⟨c, ns, z + 1, left, hq2, hc2, by omega, by omega, l0, len⟩ bt
        · intro R hR
          walk_at "hx"
          refine ite2 (fun c2 => ?_) (fun c2 => ?_)
          · walk_at "hx"
            refine ite2 (fun c3 => ?_) (fun c3 => ?_)
            · walk_at "hgo"
              have big := of_decide_eq_true c3
              refine k _ _ (fm _).1 (fm _).2 ⟨c, ns, z + 1, _, upd_same, look_past ncq hc2, by omega, by omega, fdiv_in m1 ?_, len⟩ (bt.upd hq2)
              have p18 : (10 : Int) ^ Int.toNat 18 = 1000000000000000000 := by decide
              split <;> omega
            · walk_at "hx"
              exact hR _ _ ⟨rfl, rfl⟩
          · walk_at "hx"
            exact hR _ _ ⟨rfl, rfl⟩
      · intro R hR
        walk_at "hx"
        intro p hp
        have hq1 := look_past (o := .lst []) (ne_of_none (look_same rfl rfl) hp) (show upd H q (.lst ([V.ref c, V.int z, V.int left].set (Int.toNat 1) (V.int (z + 1)))) q = some (.lst [V.ref c, V.int (z + 1), V.int left]) from upd_same)
        have hc0 : upd H q (.lst ([V.ref c, V.int z, V.int left].set (Int.toNat 1) (V.int (z + 1)))) c = some (.lst (ns.map V.int)) := look_past ncq hc
        have hc1 := look_past (o := .lst []) (ne_of_none hc0 hp) hc0
        have bt : But q H (upd (upd H q (.lst ([V.ref c, V.int z, V.int left].set (Int.toNat 1) (V.int (z + 1))))) p (.lst [])) := (but_upd (x' := V.int (z + 1)) (y' := V.int left) hq).new hp
        refine g_neD (.lst (SqL.of hc1) (dp_ints ns)) (.lst (SqL.of upd_same) .nil) (shapedInts ns) (by decide +kernel) ?_
        rw [eqvInts0]
        generalize upd (upd H q (.lst ([V.ref c, V.int z, V.int left].set (Int.toNat 1) (V.int (z + 1))))) p (.lst []) = H2 at hq1 hc1 bt ⊢
        walk_at "hx"
        by_cases hn : ns = []
        · refine g_false (by simp [hn]) ?_
          walk_at "hx"
          exact hR _ _ ⟨_, rfl, hq1, hc1, bt⟩
        · refine g_true (by simp [hn]) ?_
          obtain ⟨v, hv⟩ := at_fmod hn z
          have hl : 0 < ns.length := List.length_pos_iff.mpr hn
          walk_at "hx"
          refine g_I (by show _ ≠ (0 : Int); rw [List.length_map]; omega) ?_
          refine g_ixL (SqL.of hc1) hv ?_
          walk_at "hx"
          exact hR _ _ ⟨v, rfl, hq1, hc1, bt⟩
end

theorem Pen.at {H : Hp} {q : Addr} {b : Nat} (p : Pen H q b) : ∃ xs, H q = some (.lst xs) := by
  obtain ⟨c, ns, z, left, h, _⟩ := p
  exact ⟨_, h⟩
theorem Pen.ne {H : Hp} {q p : Addr} {b : Nat} (h : Pen H q b) (hp : H p = none) : p ≠ q := by
  obtain ⟨xs, e⟩ := h.at
  exact (ne_of_none e hp).symm
theorem Pen.same {H H' : Hp} {q : Addr} {b : Nat} (h : Pen H q b) (s : Same H H') : Pen H' q b := by
  obtain ⟨c, ns, z, left, h1, h2, r⟩ := h
  exact ⟨c, ns, z, left, s _ _ h1, s _ _ h2, r⟩
theorem Pen.new {H : Hp} {q p : Addr} {b : Nat} {o : HO} (h : Pen H q b) (hp : H p = none) : Pen (upd H p o) q b := h.same fun x u e => by
  rw [upd_ne (ne_of_none e hp)]
  exact e
theorem Pen.more {H : Hp} {q : Addr} {b b' : Nat} (h : Pen H q b) (l : b ≤ b') : Pen H q b' := by
  obtain ⟨c, ns, z, left, h1, h2, z0, zb, r⟩ := h
  exact ⟨c, ns, z, left, h1, h2, z0, by omega, r⟩
/-- the pen at q and what was known of H -/
structure Led (q : Addr) (b : Nat) (H H' : Hp) : Prop where
  pen : Pen H' q b
  but : But q H H'
theorem Led.new {q p : Addr} {b : Nat} {H H' : Hp} {o : HO} (l : Led q b H H') (hp : H' p = none) : Led q b H (upd H' p o) := ⟨l.pen.new hp, l.but.new hp⟩
theorem Led.draw {q : Addr} {b : Nat} {H H1 H2 : Hp} (l : Led q b H H1) (p : Pen H2 q (b + 1)) (t : But q H1 H2) : Led q (b + 1) H H2 := ⟨p, l.but.trans t⟩
/-- what was new ahead of draws may be changed behind them -/
theorem Led.keep {q p : Addr} {b b3 : Nat} {H H3 H5 : Hp} {o : HO} (l : Led q b H H5) (P3 : Pen H3 q b3) (hp : H3 p = none) (t3 : But q H H3) (t5 : But q H3 H5) : Led q b H (upd H5 p o) := by
  have n := P3.ne hp
  have hH := t3.free n hp
  obtain ⟨c, ns, z, left, h1, h2, _⟩ := P3
  have npc : c ≠ p := ne_of_none h2 hp
  obtain ⟨x', y', h5⟩ := t5.cl c _ _ h1
  obtain ⟨⟨c', ns', z', left', g1, g2, r⟩, bt⟩ := l
  rw [h5] at g1
  cases g1
  refine ⟨⟨c, ns', z', left', ?_, ?_, r⟩, ?_, ?_⟩
  · rw [upd_ne n.symm]
    exact h5
  · rw [upd_ne npc]
    exact g2
  · intro a u na e
    rw [upd_ne (ne_of_none e hH)]
    exact bt.st a u na e
  · intro d x y e
    rw [upd_ne n.symm]
    exact bt.cl d x y e
theorem cut_ints (ns : List Int) (lo hi : Option Int) : ∃ ms : List Int, cutV (ns.map V.int) lo hi = ms.map V.int ∧ ms.length ≤ ns.length := by
  unfold cutV
  refine ⟨(ns.drop (HT.sIx (ns.map V.int).length 0 lo)).take (HT.sIx (ns.map V.int).length (ns.map V.int).length hi - HT.sIx (ns.map V.int).length 0 lo), ?_, ?_⟩
  · rw [List.map_take, List.map_drop]
  · rw [List.length_take, List.length_drop]
    omega
structure TxtP (mg : Str → Option Value) : Prop where
  list : mg "list" = none
  len : mg "len" = none
  range : mg "range" = none
structure Has (K : PySem.W.Frag) (mg : Str → Option Value) (fD : Addr) (fdD : FuncData) : Prop where
  g_law_draw : mg "_law_draw" = some (.ref fD)
def spPen (K : PySem.W.Frag) : Sp := fun vs H Q _ => ∃ (a : Addr) (ns : List Int), vs = [.ref a] ∧ SqL K H a (ns.map V.int) ∧ ns.length ≤ 63 ∧ ∀ (q : Addr) (H' : Hp), H q = none → Pen H' q 0 → Same H H' → Q (.ref q) H'
def spPick : Sp := fun vs H Q _ => ∃ (q : Addr) (o : V) (b : Nat), vs = [.ref q, o] ∧ Pen H q b ∧ b ≤ 100000 ∧
  ((∃ (l : Addr) (xs : List V), o = .ref l ∧ l ≠ q ∧ H l = some (.lst xs) ∧ xs ≠ [] ∧ xs.length ≤ 1000 ∧ ∀ (v : V) (H' : Hp), v ∈ xs → Pen H' q (b + 1) → But q H H' → Q v H') ∨
   (∃ z : Str, o = .str z ∧ z ≠ Str.empty ∧ 0 < z.length ∧ z.length ≤ 1000 ∧ ∀ (c : Nat) (H' : Hp), c ∈ z.cps.toList → Pen H' q (b + 1) → But q H H' → Q (.str ⟨#[c]⟩) H'))
theorem pick_at {xs : List V} {d : Int} (h0 : 0 ≤ d) (h1 : d < (xs.length : Int)) : ∃ v, v ∈ xs ∧ atI xs d = some v := by
  obtain ⟨j, rfl⟩ : ∃ j : Nat, d = (j : Int) := ⟨d.toNat, by omega⟩
  have hj : j < xs.length := by omega
  exact ⟨xs[j], List.getElem_mem hj, atI_nat (List.getElem?_eq_getElem hj)⟩
section
variable {P : Program} {w : World} {K : PySem.W.Frag} {mg : Str → Option Value} {base : Heap}
theorem ok_law_pen {f : Addr} {fd : FuncData} (F : Fun K "_law_pen" "_law_pen" s_law_pen f fd) (T : TxtP mg) : FnOk P w K mg base CX0 1 f fd ["_law_script"] (spPen K) := by
  refine F.ok sc_law_pen (fun vs H Q E h => ?_) (fun cdv A outer s H vs Q E hr h => ?_)
  · obtain ⟨a, ns, rfl, _⟩ := h
    rfl
  · obtain ⟨a, ns, rfl, hS, len, k⟩ := h
    refine ⟨_, (pss_one (ps_ret (pe_lst (pa_cons (pe_callTy call_listL (by rfl) T.list (by decide +kernel) (pa_cons (pe_slice sl_list (pv 0) po_none (po_some pe_int)) pa_nil)) (pa_cons pe_int (pa_cons pe_int pa_nil)))))), ?_⟩
    try dsimp only [cxOf]
    walk_at "hgo"
    refine g_slL hS ?_
    intro p hp
    walk_at "hgo"
    refine g_listL (SqL.of upd_same) ?_
    intro c hc
    walk_at "hgo"
    intro q hq
    obtain ⟨ms, e, l⟩ := cut_ints ns none (some 63)
    have npc : p ≠ c := (gone_past hc).1.symm
    have hq1 := gone_past hq
    have hq2 := gone_past hq1.2
    walk_at "hgo"
    refine k q _ hq2.2 ⟨c, ms, 0, 0, upd_same, ?_, by omega, by omega, by omega, by omega⟩ ?_
    · rw [upd_ne hq1.1.symm, upd_same, e]
    · intro b o eb
      rw [upd_ne (ne_of_none eb hq2.2), upd_ne (ne_of_none eb (gone_past hc).2), upd_ne (ne_of_none eb hp)]
      exact eb
variable {f_law_draw : Addr} {fd_law_draw : FuncData}
theorem ok_law_pick {f : Addr} {fd : FuncData} (F : Fun K "_law_pick" "_law_pick" s_law_pick f fd) (TD : TxtD mg) (T : TxtP mg)
    (F_law_draw : Fun K "_law_draw" "_law_draw" s_law_draw f_law_draw fd_law_draw) (b_law_draw : Binds K fd_law_draw ["_law_pen_here", "_law_many"] []) (g_law_draw : mg "_law_draw" = some (.ref f_law_draw)) :
    FnOk P w K mg base CX0 2 f fd ["_law_pen_here", "_law_some"] spPick := by
  have G_law_draw : FnOk P w K mg base CX0 1 f_law_draw fd_law_draw ["_law_pen_here", "_law_many"] spDraw := ok_law_draw F_law_draw TD
  refine F.ok sc_law_pick (fun vs H Q E h => ?_) (fun cdv A outer s H vs Q E hr h => ?_)
  · obtain ⟨q, o, b, rfl, _⟩ := h
    rfl
  · obtain ⟨q, o, b, rfl, hP, hb, h⟩ := h
    refine ⟨_, (pss_one (ps_ret (pe_ix (IxR.or ix_list ix_str) (pv 1) (pe_call G_law_draw (hr.mono (by decide)) (by rfl) g_law_draw F_law_draw.kp b_law_draw .nil pass0 (pa_cons (pv 0) (pa_cons (pe_callB (CallR.or call_lenL call_lenS) (by rfl) T.len (by decide +kernel) (pa_cons (pv 1) pa_nil)) pa_nil))) (fun _ _ => rfl)))), ?_⟩
    try dsimp only [cxOf]
    rcases h with ⟨l, xs, rfl, nlq, hl, ne, len, k⟩ | ⟨z, rfl, ne, z0, len, k⟩
    · walk_at "hgo"
      refine .inl ?_
      refine ⟨l, xs, rfl, .inl (SqL.of hl), ?_⟩
      have hn : 0 < xs.length := List.length_pos_iff.mpr ne
      walk_at "hgo"
      refine ⟨q, (xs.length : Int), b, rfl, hP, hb, by omega, by omega, ?_⟩
      intro d H1 d0 d1 P1 t1
      obtain ⟨v, hv, ha⟩ := pick_at d0 d1
      refine .inl ⟨l, xs, d, v, rfl, rfl, SqL.of (t1.st l _ nlq hl), ha, ?_⟩
      walk_at "hgo"
      exact k v H1 hv P1 t1
    · walk_at "hgo"
      refine .inr ?_
      refine ⟨z, rfl, Nat.le_trans len (by decide), ?_⟩
      walk_at "hgo"
      refine ⟨q, (z.length : Int), b, rfl, hP, hb, by omega, by omega, ?_⟩
      intro d H1 d0 d1 P1 t1
      have e : z.length = z.cps.toList.length := (Array.length_toList).symm
      obtain ⟨c, hc, ha⟩ : ∃ c, c ∈ z.cps.toList ∧ atI z.cps.toList d = some c := by
        obtain ⟨j, rfl⟩ : ∃ j : Nat, d = (j : Int) := ⟨d.toNat, by omega⟩
        have hj : j < z.cps.toList.length := by omega
        exact ⟨z.cps.toList[j], List.getElem_mem hj, atI_nat (List.getElem?_eq_getElem hj)⟩
      refine .inr ⟨z, d, c, rfl, rfl, Nat.le_trans len (by decide), ha, ?_⟩
      walk_at "hgo"
      exact k c H1 hc P1 t1
end

/-- a value of the law: its kind, by name -/
inductive Kd (K : PySem.W.Frag) (H : Hp) : V → String → Prop
  | non : Kd K H .non "NoneType"
  | bl (b : Bool) : Kd K H (.bl b) "bool"
  | int (i : Int) : Kd K H (.int i) "int"
  | str (s : Str) : s.length ≤ 100000 → Kd K H (.str s) "str"
  | lst {a : Addr} {xs : List V} : H a = some (.lst xs) → Kd K H (.ref a) "list"
  | tup {a : Addr} {xs : List V} : H a = some (.tup xs) → Kd K H (.ref a) "tuple"
  | dK {a : Addr} {kvs : List (Key × V)} : H a = some (.dK kvs) → Kd K H (.ref a) "dict"
theorem Kd.ty {K : PySem.W.Frag} {H : Hp} {v : V} {n : String} (h : Kd K H v n) : TyX K H v (.type n) := by
  cases h with
  | non => exact .base .non
  | bl b => exact .base (.bl b)
  | int i => exact .base (.int i)
  | str s _ => exact .base (.str s)
  | lst e => exact .base (.lst e)
  | tup e => exact .base (.tup e)
  | dK e => exact .base (.dK e)
def isS : V → Bool
  | .str _ => true
  | _ => false
def isI : V → Bool
  | .int _ => true
  | _ => false
def isB : V → Bool
  | .bl _ => true
  | _ => false
theorem Kd.isStr {K : PySem.W.Frag} {H : Hp} {v : V} {n : String} (h : Kd K H v n) : kitB n "str" = some (isS v) := by
  cases h <;> first | (show _ = some true; decide +kernel) | (show _ = some false; decide +kernel)
theorem Kd.isInt {K : PySem.W.Frag} {H : Hp} {v : V} {n : String} (h : Kd K H v n) : kitB n "int" = some (isI v || isB v) := by
  cases h <;> first | (show _ = some true; decide +kernel) | (show _ = some false; decide +kernel)
theorem Kd.isBool {K : PySem.W.Frag} {H : Hp} {v : V} {n : String} (h : Kd K H v n) : kitB n "bool" = some (isB v) := by
  cases h <;> first | (show _ = some true; decide +kernel) | (show _ = some false; decide +kernel)
def letters : Str := Str.ofString "abcdefghijklmnopqrstuvwxyz"
def okS (s : Str) : Bool := decide (0 < s.length) && decide (s.length < 9) && !decide (s = Str.ofString "self") && s.cps.toList.all fun c => decide (c ∈ letters.cps.toList)
def okV : V → Bool
  | .str s => okS s
  | _ => false
theorem letters_is : letters.cps.toList = List.range' 97 26 := by decide +kernel
theorem mem_letters (c : Nat) : c ∈ letters.cps.toList ↔ 97 ≤ c ∧ c < 123 := by
  rw [letters_is, List.mem_range'_1]
theorem tabs : ∀ c : _root_.Fin 128, (Unicode.isAlpha c.val && !(Unicode.isUpper c.val || Unicode.isTitle c.val)) = decide (97 ≤ c.val ∧ c.val < 123) ∧ (decide (97 ≤ c.val ∧ c.val < 123) = true → Unicode.isLower c.val = true) := by decide +kernel
theorem tab {c : Nat} (h : c < 128) : (Unicode.isAlpha c = true ∧ Unicode.isUpper c = false ∧ Unicode.isTitle c = false) ↔ (97 ≤ c ∧ c < 123) := by
  have t := (tabs ⟨c, h⟩).1
  simp only at t
  constructor
  · rintro ⟨a, b, d⟩
    rw [a, b, d] at t
    exact of_decide_eq_true t.symm
  · intro q
    rw [decide_eq_true q] at t
    simp only [Bool.and_eq_true, Bool.not_eq_true', Bool.or_eq_false_iff] at t
    exact ⟨t.1, t.2.1, t.2.2⟩
theorem tabL {c : Nat} (h : 97 ≤ c ∧ c < 123) : Unicode.isLower c = true := (tabs ⟨c, by omega⟩).2 (decide_eq_true h)
theorem name_is (s : Str) : (Txt.isascii s && (Txt.isalpha s && Txt.islower s)) = (decide (0 < s.length) && s.cps.toList.all fun c => decide (c ∈ letters.cps.toList)) := by
  have e0 : ∀ p : Nat → Bool, s.cps.all p = s.cps.toList.all p := fun p => by rw [Array.all_toList]
  have e1 : ∀ p : Nat → Bool, s.cps.any p = s.cps.toList.any p := fun p => by rw [Array.any_toList]
  unfold Txt.isascii Txt.isalpha Txt.islower
  rw [e0, e0, e1, e1]
  have hl : s.length = s.cps.toList.length := by
    show s.cps.size = _
    rw [Array.length_toList]
  rw [hl]
  generalize s.cps.toList = l
  rw [Bool.eq_iff_iff]
  simp only [Bool.and_eq_true, List.all_eq_true, decide_eq_true_eq, List.any_eq_true, Bool.not_eq_true', List.any_eq_false, Bool.or_eq_true, not_or, mem_letters, gt_iff_lt]
  constructor
  · rintro ⟨a, ⟨n, al⟩, lo, up⟩
    refine ⟨n, fun c hc => ?_⟩
    have u := up c hc
    exact (tab (a c hc)).mp ⟨al c hc, by simpa using u.1, by simpa using u.2⟩
  · rintro ⟨n, al⟩
    refine ⟨fun c hc => by have := al c hc; omega, ⟨n, fun c hc => ?_⟩, ?_, fun c hc => ?_⟩
    · have := al c hc
      exact ((tab (c := c) (by omega)).mpr this).1
    · cases l with
      | nil => simp at n
      | cons c r => exact ⟨c, List.mem_cons_self, tabL (al c List.mem_cons_self)⟩
    · have := al c hc
      have q := (tab (c := c) (by omega)).mpr this
      exact ⟨by simp [q.2.1], by simp [q.2.2]⟩
structure TxtN (mg : Str → Option Value) : Prop where
  int : mg "int" = none
  bool : mg "bool" = none
  str : mg "str" = none
  len : mg "len" = none
  isinstance : mg "isinstance" = none
/-- a def that tells something of a value -/
def spIs (K : PySem.W.Frag) (f : V → Bool) : Sp := fun vs H Q _ => ∃ (v : V) (n : String), vs = [v] ∧ Kd K H v n ∧ ∀ H', Same H H' → Q (.bl (f v)) H'
section
variable {P : Program} {w : World} {K : PySem.W.Frag} {mg : Str → Option Value} {base : Heap}
theorem ok_is_name {f : Addr} {fd : FuncData} (F : Fun K "is_name" "is_name" s_is_name f fd) (T : TxtN mg) : FnOk P w K mg base CX0 1 f fd ["value"] (spIs K okV) := by
  refine F.ok sc_is_name (fun vs H Q E h => ?_) (fun cdv A outer s H vs Q E hr h => ?_)
  · obtain ⟨v, n, rfl, _⟩ := h
    rfl
  · obtain ⟨v, n, rfl, hk, k⟩ := h
    refine ⟨_, (pss_cons (ps_if (PW.pt (pw_or (pt_not (pt_val (pe_callB call_isi (by rfl) T.isinstance (by decide +kernel) (pa_cons (pv 0) (pa_cons (pe_bltn (v := .ty "str") (u := .type "str") (by rfl) T.str (by decide +kernel) rfl) pa_nil))))) (pw_or1 (pt_cmpR op_gt (pe_callB call_lenS (by rfl) T.len (by decide +kernel) (pa_cons (pv 0) pa_nil)) pe_int (nomark _))))) (pss_one (ps_ret pe_bl)) pss_nil)
      (pss_one (ps_ret (pe_and (pe_bm0 PySem.F.plainAttrs_str PySem.F.slot_str_isascii PySem.F.type_str_isascii mt_isasciiB (pv 0)) (pe_and (pe_bm0 PySem.F.plainAttrs_str PySem.F.slot_str_isalpha PySem.F.type_str_isalpha mt_isalphaB (pv 0)) (pe_and (pe_bm0 PySem.F.plainAttrs_str PySem.F.slot_str_islower PySem.F.type_str_islower mt_islowerB (pv 0)) (pe_one (pe_cmpR op_ne (pv 0) pe_str (nomark _))))))))), ?_⟩
    dsimp only [cxOf]
    walk_at "hgo"
    refine g_isi hk.ty hk.isStr ?_
    walk_at "hgo"
    cases hk with
    | str s hs =>
      refine g_false rfl ?_
      walk_at "hgo"
      refine g_lenS (small_of (by omega)) ?_
      walk_at "hgo"
      refine ite2 (fun c1 => ?_) (fun c1 => ?_)
      · walk_at "hgo"
        have e : okV (.str s) = false := by
          have z : ¬ s.length < 9 := by
            have := of_decide_eq_true c1
            omega
          show okS s = false
          unfold okS
          rw [decide_eq_false z]
          simp
        rw [e] at k
        exact k H (Same.refl H)
      · walk_at "hgo"
        have z : s.length < 9 := by
          have := of_decide_eq_false (Bool.eq_false_iff.mpr c1)
          omega
        have e : okV (.str s) = (Txt.isascii s && (Txt.isalpha s && (Txt.islower s && !decide (V.str s = V.str (Str.ofString "self"))))) := by
          have n := name_is s
          have q : decide (V.str s = V.str (Str.ofString "self")) = decide (s = Str.ofString "self") := by
            by_cases w : s = Str.ofString "self"
            · rw [decide_eq_true w, decide_eq_true (congrArg V.str w)]
            · rw [decide_eq_false w, decide_eq_false (fun y => w (V.str.inj y))]
          rw [q]
          have r : (Txt.isascii s && (Txt.isalpha s && (Txt.islower s && !decide (s = Str.ofString "self")))) = ((Txt.isascii s && (Txt.isalpha s && Txt.islower s)) && !decide (s = Str.ofString "self")) := by
            cases Txt.isascii s <;> cases Txt.isalpha s <;> cases Txt.islower s <;> simp
          rw [r, n]
          show okS s = _
          unfold okS
          rw [decide_eq_true z]
          cases decide (0 < s.length) <;> cases decide (s = Str.ofString "self") <;> simp
        rw [e] at k
        cases e1 : Txt.isascii s with
        | false =>
          rw [e1] at k
          exact iteF (k H (Same.refl H))
        | true =>
          rw [e1] at k
          refine iteT ?_
          walk_at "hgo"
          cases e2 : Txt.isalpha s with
          | false =>
            rw [e2] at k
            exact iteF (k H (Same.refl H))
          | true =>
            rw [e2] at k
            refine iteT ?_
            walk_at "hgo"
            cases e3 : Txt.islower s with
            | false =>
              rw [e3] at k
              exact iteF (k H (Same.refl H))
            | true =>
              rw [e3] at k
              refine iteT ?_
              walk_at "hgo"
              exact k H (Same.refl H)
    | _ =>
      refine g_true rfl ?_
      walk_at "hgo"
      exact k H (Same.refl H)
end

structure TxtS (mg : Str → Option Value) : Prop where
  int : mg "int" = none
  bool : mg "bool" = none
  len : mg "len" = none
  abs : mg "abs" = none
  list : mg "list" = none
  range : mg "range" = none
  str : mg "str" = none
  isinstance : mg "isinstance" = none
  tuple : mg "tuple" = none
  enumerate : mg "enumerate" = none
  repr : mg "repr" = none
structure TxtU (mg : Str → Option Value) : Prop where
  enumerate : mg "enumerate" = none
structure VF (K : PySem.W.Frag) (mg : Str → Option Value) where
  CL : Addr
  CT : Addr
  CN : Addr
  CM : Addr
  CD : Addr
  od : Value
  fIN : Addr
  dIN : FuncData
  fLO : Addr
  dLO : FuncData
  fRN : Addr
  dRN : FuncData
  fST : Addr
  dST : FuncData
  fRS : Addr
  dRS : FuncData
  fRD : Addr
  dRD : FuncData
  fLP : Addr
  dLP : FuncData
  fLD : Addr
  dLD : FuncData
  fLK : Addr
  dLK : FuncData
  fLW : Addr
  dLW : FuncData
  fLT : Addr
  dLT : FuncData
  fLE : Addr
  dLE : FuncData
  fLX : Addr
  dLX : FuncData
  fLI : Addr
  dLI : FuncData
  fLQ : Addr
  dLQ : FuncData
  fLU : Addr
  dLU : FuncData
  fLR : Addr
  dLR : FuncData
  fLB : Addr
  dLB : FuncData
  fNI : Addr
  dNI : FuncData
  fWA : Addr
  dWA : FuncData
  fNA : Addr
  dNA : FuncData
  fNB : Addr
  dNB : FuncData
  fCA : Addr
  dCA : FuncData
  fEA : Addr
  dEA : FuncData
  fTI : Addr
  dTI : FuncData
  t : TxtS mg
  u : TxtU mg
  F_is_name : Fun K "is_name" "is_name" s_is_name fIN dIN
  b_is_name : Binds K dIN ["value"] []
  g_is_name : mg "is_name" = some (.ref fIN)
  F_lines_of : Fun K "lines_of" "lines_of" s_lines_of fLO dLO
  b_lines_of : Binds K dLO ["text"] []
  g_lines_of : mg "lines_of" = some (.ref fLO)
  F_read_number : Fun K "read_number" "read_number" s_read_number fRN dRN
  b_read_number : Binds K dRN ["word", "most"] []
  g_read_number : mg "read_number" = some (.ref fRN)
  F_story_text : Fun K "story_text" "story_text" s_story_text fST dST
  b_story_text : Binds K dST ["deeds"] []
  g_story_text : mg "story_text" = some (.ref fST)
  F_read_story : Fun K "read_story" "read_story" s_read_story fRS dRS
  b_read_story : Binds K dRS ["text"] []
  g_read_story : mg "read_story" = some (.ref fRS)
  F_read_deed : Fun K "read_deed" "read_deed" s_read_deed fRD dRD
  b_read_deed : Binds K dRD ["line"] []
  g_read_deed : mg "read_deed" = some (.ref fRD)
  F_law_pen : Fun K "_law_pen" "_law_pen" s_law_pen fLP dLP
  b_law_pen : Binds K dLP ["_law_script"] []
  g_law_pen : mg "_law_pen" = some (.ref fLP)
  F_law_draw : Fun K "_law_draw" "_law_draw" s_law_draw fLD dLD
  b_law_draw : Binds K dLD ["_law_pen_here", "_law_many"] []
  g_law_draw : mg "_law_draw" = some (.ref fLD)
  F_law_pick : Fun K "_law_pick" "_law_pick" s_law_pick fLK dLK
  b_law_pick : Binds K dLK ["_law_pen_here", "_law_some"] []
  g_law_pick : mg "_law_pick" = some (.ref fLK)
  F_law_word : Fun K "_law_word" "_law_word" s_law_word fLW dLW
  b_law_word : Binds K dLW ["_law_pen_here"] []
  g_law_word : mg "_law_word" = some (.ref fLW)
  F_law_tag : Fun K "_law_tag" "_law_tag" s_law_tag fLT dLT
  b_law_tag : Binds K dLT ["_law_pen_here"] []
  g_law_tag : mg "_law_tag" = some (.ref fLT)
  F_law_deed : Fun K "_law_deed" "_law_deed" s_law_deed fLE dLE
  b_law_deed : Binds K dLE ["_law_pen_here"] []
  g_law_deed : mg "_law_deed" = some (.ref fLE)
  F_law_text : Fun K "_law_text" "_law_text" s_law_text fLX dLX
  b_law_text : Binds K dLX ["_law_some"] []
  g_law_text : mg "_law_text" = some (.ref fLX)
  F_law_is_right : Fun K "_law_is_right" "_law_is_right" s_law_is_right fLI dLI
  b_law_is_right : Binds K dLI ["_law_sort", "_law_word_here"] []
  g_law_is_right : mg "_law_is_right" = some (.ref fLI)
  F_law_wrong_line : Fun K "_law_wrong_line" "_law_wrong_line" s_law_wrong_line fLQ dLQ
  b_law_wrong_line : Binds K dLQ ["_law_words"] []
  g_law_wrong_line : mg "_law_wrong_line" = some (.ref fLQ)
  F_law_due : Fun K "_law_due" "_law_due" s_law_due fLU dLU
  b_law_due : Binds K dLU ["_law_page"] []
  g_law_due : mg "_law_due" = some (.ref fLU)
  F_law_heard : Fun K "_law_heard" "_law_heard" s_law_heard fLR dLR
  b_law_heard : Binds K dLR ["_law_value"] []
  g_law_heard : mg "_law_heard" = some (.ref fLR)
  F_law_bent : Fun K "_law_bent" "_law_bent" s_law_bent fLB dLB
  b_law_bent : Binds K dLB ["_law_pen_here", "_law_lines_so"] []
  g_law_bent : mg "_law_bent" = some (.ref fLB)
  F_linit : Fun K "__init__" "Line.__init__" s_Line___init__ fNI dNI
  b_linit : Binds K dNI ["self", "index", "text"] []
  F_wordat : Fun K "word_at" "Line.word_at" s_Line_word_at fWA dWA
  b_wordat : Binds K dWA ["self", "at"] []
  F_nameat : Fun K "name_at" "Line.name_at" s_Line_name_at fNA dNA
  b_nameat : Binds K dNA ["self", "at"] []
  F_nameabove : Fun K "name_above" "Line.name_above" s_Line_name_above fNB dNB
  b_nameabove : Binds K dNB ["self", "at", "last"] []
  F_countat : Fun K "count_at" "Line.count_at" s_Line_count_at fCA dCA
  b_countat : Binds K dCA ["self", "at"] []
  F_endat : Fun K "end_at" "Line.end_at" s_Line_end_at fEA dEA
  b_endat : Binds K dEA ["self", "at"] []
  F_tinit : Fun K "__init__" "InvalidText.__init__" s_InvalidText___init__ fTI dTI
  b_tinit : Binds K dTI ["self", "line", "word"] []
  kb_story_text : KBinds K dST ["deeds"] ["deeds"] (fun us ws => us ++ ws) (fun vs zs => vs ++ zs)
  kb_read_story : KBinds K dRS ["text"] ["text"] (fun us ws => us ++ ws) (fun vs zs => vs ++ zs)
  g_Line : mg "Line" = some (.ref CL)
  mk_L : Mk K CL fNI
  c_L : Cls K CL
  n_index : NoAttr K CL "index"
  n_words : NoAttr K CL "words"
  m_wordat : Meth K CL "word_at" fWA
  m_nameat : Meth K CL "name_at" fNA
  m_nameabove : Meth K CL "name_above" fNB
  m_countat : Meth K CL "count_at" fCA
  m_endat : Meth K CL "end_at" fEA
  g_InvalidText : mg "InvalidText" = some (.ref CT)
  g_InvalidDeed : mg "InvalidDeed" = some (.ref CD)
  g_NetError : mg "NetError" = some (.ref CN)
  g_MissingError : mg "MissingError" = some (.ref CM)
  o_T : OexC K CT
  i_T : PySem.W.findIn K (.ref CT) "__init__" = some (some (.ref fTI))
  t_T : PySem.W.typeIn K (.ref fTI) = some (.type "function")
  n_line : PySem.W.findIn K (.ref CT) "line" = some none
  n_word : PySem.W.findIn K (.ref CT) "word" = some none
  ask_T : AskC K CT
  ex_T : PySem.W.exmAny K (.ref CT) [.ref CN, .ref CM] = some true
  k_TT : PySem.W.kitOne K (.ref CT) (.ref CT) = some true
  k_TD : PySem.W.kitAny K (.ref CT) [.ref CD, .ref CM] = some false
  g_od : mg "OTHER_DIGITS" = some od
  r_od : RelV (.int 6) od
def sizesL : List (Str × Int) := [("open", 3), ("close", 2), ("move", 2), ("book", 3), ("restart", 2), ("settle", 1)]
structure SZ (K : PySem.W.Frag) (w : World) (mg : Str → Option Value) where
  dS : Addr
  g_SIZES : mg "SIZES" = some (.ref dS)
  k_S : KSi K w dS sizesL

theorem TxtS.d {mg : Str → Option Value} (T : TxtS mg) : TxtD mg := ⟨T.int, T.len, T.abs⟩
theorem TxtS.p {mg : Str → Option Value} (T : TxtS mg) : TxtP mg := ⟨T.list, T.len, T.range⟩
theorem TxtS.n {mg : Str → Option Value} (T : TxtS mg) : TxtN mg := ⟨T.int, T.bool, T.str, T.len, T.isinstance⟩
section
variable {P : Program} {w : World} {K : PySem.W.Frag} {mg : Str → Option Value} {base : Heap}
theorem k_law_draw (V : VF K mg) : FnOk P w K mg base CX0 1 V.fLD V.dLD ["_law_pen_here", "_law_many"] spDraw := ok_law_draw V.F_law_draw V.t.d
theorem k_law_pick (V : VF K mg) : FnOk P w K mg base CX0 2 V.fLK V.dLK ["_law_pen_here", "_law_some"] spPick := ok_law_pick V.F_law_pick V.t.d V.t.p V.F_law_draw V.b_law_draw V.g_law_draw
theorem k_law_pen (V : VF K mg) : FnOk P w K mg base CX0 1 V.fLP V.dLP ["_law_script"] (spPen K) := ok_law_pen V.F_law_pen V.t.p
theorem k_is_name (V : VF K mg) : FnOk P w K mg base CX0 1 V.fIN V.dIN ["value"] (spIs K okV) := ok_is_name V.F_is_name V.t.n
end

section
open PySem.Builtin PySem.Builtin.Str
/-! numbers in texts -/
def bare (l : List Nat) : List Nat := if l.head? = some 45 then l.tail else l
def dig (c : Nat) : Bool := decide (48 ≤ c) && decide (c ≤ 57)
def numB (w : Str) : Bool := (decide (bare (TL.tl w) ≠ []) && decide ((bare (TL.tl w)).length ≤ 60)) && (decide ((bare (TL.tl w)).head? ≠ some 48) && (bare (TL.tl w)).all dig)
def numV (w : Str) : Int := (PySem.intText? w).getD 0
theorem dig_all {l : List Nat} (h : l.all dig = true) : NumText.AllDigits l := fun c hc => by
  have := List.all_eq_true.mp h c hc
  unfold dig at this
  simpa using this
theorem dv_ge : ∀ (l : List Nat) (a : Nat), a ≤ l.foldl (fun acc c => acc * 10 + (c - 48)) a
  | [], _ => Nat.le_refl _
  | c :: r, a => Nat.le_trans (by omega) (dv_ge r (a * 10 + (c - 48)))
theorem dv_lt : ∀ (l : List Nat) (a : Nat), NumText.AllDigits l → l.foldl (fun acc c => acc * 10 + (c - 48)) a < (a + 1) * 10 ^ l.length
  | [], a, _ => by simp
  | c :: r, a, h => by
    have ih := dv_lt r (a * 10 + (c - 48)) h.tail
    have hc := h.head
    rw [List.foldl_cons, List.length_cons, Nat.pow_succ]
    refine Nat.lt_of_lt_of_le ih ?_
    have : a * 10 + (c - 48) + 1 ≤ (a + 1) * 10 := by omega
    calc (a * 10 + (c - 48) + 1) * 10 ^ r.length ≤ ((a + 1) * 10) * 10 ^ r.length := Nat.mul_le_mul_right _ this
      _ = (a + 1) * (10 ^ r.length * 10) := by rw [Nat.mul_assoc, Nat.mul_comm 10]
theorem dv_pos {l : List Nat} (h : NumText.AllDigits l) (ne : l ≠ []) (hd : l.head? ≠ some 48) : 0 < NumText.digitsVal l := by
  cases l with
  | nil => exact absurd rfl ne
  | cons c r =>
    have hc := h.head
    have : c ≠ 48 := fun e => hd (by rw [e]; rfl)
    unfold NumText.digitsVal
    rw [List.foldl_cons]
    exact Nat.lt_of_lt_of_le (show 0 < 0 * 10 + (c - 48) by omega) (dv_ge r _)
theorem dv_small {l : List Nat} (h : NumText.AllDigits l) (z : l.length ≤ 60) : NumText.digitsVal l < 10 ^ 60 := by
  have := dv_lt l 0 h
  rw [Nat.zero_add, Nat.one_mul] at this
  exact Nat.lt_of_lt_of_le this (Nat.pow_le_pow_right (by decide) z)
theorem numB_iff {w : Str} : numB w = true ↔ bare (TL.tl w) ≠ [] ∧ (bare (TL.tl w)).length ≤ 60 ∧ (bare (TL.tl w)).head? ≠ some 48 ∧ (bare (TL.tl w)).all dig = true := by
  unfold numB
  simp only [Bool.and_eq_true, decide_eq_true_eq]
  constructor
  · rintro ⟨⟨a, b⟩, c, d⟩; exact ⟨a, b, c, d⟩
  · rintro ⟨a, b, c, d⟩; exact ⟨⟨a, b⟩, c, d⟩
/-- w writes a number that int takes -/
theorem int_of {w : Str} (ne : bare (TL.tl w) ≠ []) (z : (bare (TL.tl w)).length ≤ 60) (al : (bare (TL.tl w)).all dig = true) :
    ∃ n : Int, PySem.intText? w = some n ∧ n.natAbs = NumText.digitsVal (bare (TL.tl w)) := by
  have hl := TL.len_tl w
  by_cases h : (TL.tl w).head? = some 45
  · have e : bare (TL.tl w) = (TL.tl w).tail := if_pos h
    rw [e] at ne z al ⊢
    obtain ⟨cs, hx⟩ : ∃ cs, TL.tl w = 45 :: cs := by
      generalize TL.tl w = l at h
      cases l with
      | nil => cases h
      | cons c r => exact ⟨r, by rw [List.head?_cons] at h; rw [Option.some.inj h]⟩
    rw [hx] at ne z al hl ⊢
    simp only [List.tail_cons] at ne z al ⊢
    refine ⟨_, intText_neg hx (dig_all al) ne (by rw [List.length_cons] at hl; omega), by omega⟩
  · have e : bare (TL.tl w) = TL.tl w := if_neg h
    rw [e] at ne z al ⊢
    exact ⟨_, intText_digits (x := w) (dig_all al) ne (by omega), by show ((NumText.digitsVal (TL.tl w) : Nat) : Int).natAbs = _; omega⟩
theorem num_int {w : Str} (h : numB w = true) : PySem.intText? w = some (numV w) ∧ numV w ≠ 0 ∧ (numV w).natAbs < 10 ^ 60 ∧ w.length ≤ 61 := by
  obtain ⟨a, b, c, d⟩ := numB_iff.mp h
  obtain ⟨n, e, v⟩ := int_of a b d
  have hv : numV w = n := by unfold numV; rw [e]; rfl
  have p := dv_pos (dig_all d) a c
  have q := dv_small (dig_all d) b
  rw [hv]
  refine ⟨e, by omega, by omega, ?_⟩
  rw [TL.len_tl]
  unfold bare at b
  split at b
  · rw [List.length_tail] at b; omega
  · omega
theorem numL_head {n : Nat} (h : 0 < n) : (TL.numL n).head? ≠ some 48 := by
  induction n using Nat.strongRecOn with
  | _ n ih =>
    by_cases k : n < 10
    · rw [TL.numL_lt k]
      simp only [List.head?_cons]
      intro e
      have := Option.some.inj e
      omega
    · rw [TL.numL_step (by omega)]
      have := ih (n / 10) (by omega) (by omega)
      have ne := TL.numL_ne (n / 10)
      generalize TL.numL (n / 10) = l at this ne
      cases l with
      | nil => exact absurd rfl ne
      | cons c r => exact this
theorem tl_int (v : Int) : TL.tl (Str.ofString (toString v)) = if v < 0 then 45 :: TL.numL v.natAbs else TL.numL v.natAbs := by
  cases v with
  | ofNat n =>
    rw [if_neg (by simp)]
    exact TL.tl_num n
  | negSucc n =>
    rw [if_pos (Int.negSucc_lt_zero n)]
    rw [TL.tl_ofString]
    show ("-" ++ Nat.repr (n + 1)).toList.map Char.toNat = _
    rw [String.toList_append, List.map_append]
    have := TL.tl_num (n + 1)
    rw [TL.tl_ofString] at this
    show _ ++ ((toString (((n + 1 : Nat)) : Int)).toList.map Char.toNat) = _
    rw [this]
    rfl
theorem bare_int (v : Int) : bare (TL.tl (Str.ofString (toString v))) = TL.numL v.natAbs := by
  rw [tl_int]
  unfold bare
  split
  · exact if_pos rfl
  · refine if_neg fun e => ?_
    have d := TL.numL_digits v.natAbs
    generalize TL.numL v.natAbs = l at e d
    cases l with
    | nil => cases e
    | cons c r =>
      have := d.head
      rw [List.head?_cons] at e
      have := Option.some.inj e
      omega
/-- a number's text is read back -/
theorem num_back {v : Int} (nz : v ≠ 0) (hb : v.natAbs < 10 ^ 60) : numB (Str.ofString (toString v)) = true ∧ numV (Str.ofString (toString v)) = v := by
  have hd := TL.numL_digits v.natAbs
  have al : (TL.numL v.natAbs).all dig = true := List.all_eq_true.mpr fun c hc => by
    have := hd c hc
    unfold dig
    simp; omega
  have ne := TL.numL_ne v.natAbs
  have ln := TL.numL_len (n := v.natAbs) (k := 60) (by decide) hb
  refine ⟨numB_iff.mpr ⟨?_, ?_, ?_, ?_⟩, ?_⟩
  · rw [bare_int]; exact ne
  · rw [bare_int]; exact ln
  · rw [bare_int]; exact numL_head (by omega)
  · rw [bare_int]; exact al
  · unfold numV
    have e := tl_int v
    have hl := TL.len_tl (Str.ofString (toString v))
    by_cases h : v < 0
    · rw [if_pos h] at e
      rw [e, List.length_cons] at hl
      rw [intText_neg e hd ne (by omega)]
      show -((NumText.digitsVal (TL.numL v.natAbs) : Nat) : Int) = v
      rw [TL.numL_val]
      omega
    · rw [if_neg h] at e
      rw [e] at hl
      have q := intText_digits (x := Str.ofString (toString v)) (by show NumText.AllDigits (TL.tl _); rw [e]; exact hd) (by show TL.tl _ ≠ []; rw [e]; exact ne) (by omega)
      rw [q]
      show ((NumText.digitsVal (TL.tl (Str.ofString (toString v))) : Nat) : Int) = v
      rw [e, TL.numL_val]
      omega
theorem minus_tl : TL.tl (Str.ofString "-") = [45] := by decide +kernel
theorem zero_tl : TL.tl (Str.ofString "0") = [48] := by decide +kernel
theorem equal_tl : TL.tl (Str.ofString "=") = [61] := by decide +kernel
theorem space_tl : TL.tl (Str.ofString " ") = [32] := by decide +kernel
theorem sub1 {w y : Str} {c : Nat} (e : TL.tl y = [c]) : Builtin.Str.subAt w y 0 = decide ((TL.tl w).head? = some c) := by
  rw [PySem.StrLaws.subAt_eq]
  have e1 : y.cps.toList = [c] := e
  have e2 : y.length = 1 := by rw [TL.len_tl, e]; rfl
  rw [e1, e2, List.drop_zero]
  show ((TL.tl w).take 1 == [c]) = _
  cases TL.tl w with
  | nil => rfl
  | cons d r =>
    rw [List.take_succ_cons, List.take_zero, List.head?_cons, Bool.eq_iff_iff, beq_iff_eq, decide_eq_true_eq]
    exact ⟨fun z => by rw [(List.cons.inj z).1], fun z => by rw [Option.some.inj z]⟩
theorem rempre (w : Str) : TL.tl (Txt.removeprefix w (Str.ofString "-")) = bare (TL.tl w) := by
  unfold Txt.removeprefix bare
  rw [sub1 minus_tl]
  have one : (Str.ofString "-").length = 1 := by rw [TL.len_tl, minus_tl]; rfl
  rw [one]
  by_cases h : (TL.tl w).head? = some 45
  · rw [if_pos h, decide_eq_true h, if_pos rfl]
    have hl := TL.len_tl w
    have pos : 1 ≤ w.length := by
      rw [hl]
      generalize TL.tl w = l at h
      cases l with
      | nil => cases h
      | cons c r => exact Nat.succ_le_succ (Nat.zero_le _)
    show TL.tl (if (w.length - 1 == w.length) = true then w else strSub w 1 w.length) = _
    have n : ¬ (w.length - 1 == w.length) = true := by
      rw [beq_iff_eq]
      omega
    rw [if_neg n, TL.tl_strSub_end, List.drop_one]
  · rw [if_neg h, decide_eq_false h, if_neg (by decide)]
    rfl
theorem starts0 (w : Str) : Txt.startswith w (Str.ofString "0") = decide ((TL.tl w).head? = some 48) := by
  unfold Txt.startswith
  rw [sub1 zero_tl]
  have one : (Str.ofString "0").length = 1 := by rw [TL.len_tl, zero_tl]; rfl
  rw [one, TL.len_tl]
  cases TL.tl w with
  | nil => rfl
  | cons c r => simp
theorem digTab : ∀ c : _root_.Fin 128, Unicode.isDigit c.val = dig c.val := by decide +kernel
theorem dig_is (s : Str) : (Txt.isascii s && Txt.isdigit s) = (decide (TL.tl s ≠ []) && (TL.tl s).all dig) := by
  have e0 : ∀ p : Nat → Bool, s.cps.all p = (TL.tl s).all p := fun p => by rw [TL.tl, Array.all_toList]
  unfold Txt.isascii Txt.isdigit
  rw [e0, e0, TL.len_tl]
  generalize TL.tl s = l
  rw [Bool.eq_iff_iff]
  simp only [Bool.and_eq_true, List.all_eq_true, decide_eq_true_eq, gt_iff_lt, List.length_pos_iff]
  constructor
  · rintro ⟨a, n, d⟩
    exact ⟨n, fun c hc => by rw [← digTab ⟨c, a c hc⟩]; exact d c hc⟩
  · rintro ⟨n, d⟩
    have lt : ∀ c ∈ l, c < 128 := fun c hc => by
      have := d c hc
      unfold dig at this
      simp only [Bool.and_eq_true, decide_eq_true_eq] at this
      omega
    exact ⟨lt, n, fun c hc => by rw [digTab ⟨c, lt c hc⟩]; exact d c hc⟩
/-- what read_number tells -/
def rdV (w : Str) : V := if numB w = true then .int (numV w) else if w = Str.ofString "0" then .int 0 else .non
theorem numB_zero : numB (Str.ofString "0") = false := by decide +kernel
theorem numB_empty : numB Str.empty = false := by decide +kernel
end

section
open PySem.Builtin PySem.Builtin.Str
def wordsOf (t : Str) : List Str := Txt.split t (Str.ofString " ")
def linesOf (t : Str) : List Str := Txt.split t (Str.ofString "\n")
theorem line_tl : TL.tl (Str.ofString "\n") = [10] := by decide +kernel
theorem kind1 {y : Str} {c : Nat} (e : TL.tl y = [c]) (h : c < 256) : y.cps.all (· < 256) = true := by
  rw [← Array.all_toList]
  show (TL.tl y).all _ = true
  rw [e]
  simp [h]
theorem words_tl (t : Str) : (wordsOf t).map TL.tl = TL.spl [32] 0 [] (TL.tl t) := by
  unfold wordsOf
  rw [TL.split_spl t _ (by rw [space_tl]; simp) (TL.kind_ok (kind1 space_tl (by decide))), space_tl]
theorem lines_tl (t : Str) : (linesOf t).map TL.tl = TL.spl [10] 0 [] (TL.tl t) := by
  unfold linesOf
  rw [TL.split_spl t _ (by rw [line_tl]; simp) (TL.kind_ok (kind1 line_tl (by decide))), line_tl]
theorem spl_len (s : Nat) : ∀ (L acc : List Nat), (TL.spl [s] 0 acc L).length = L.count s + 1
  | [], acc => by rw [TL.spl_nil]; rfl
  | c :: r, acc => by
    cases h : TL.pre [s] (c :: r) with
    | true =>
      have e : c = s := by
        unfold TL.pre at h
        simpa using h
      rw [TL.spl_hit h]
      show (TL.spl [s] 0 [] r).length + 1 = _
      rw [spl_len s r, e, List.count_cons_self]
    | false =>
      have e : c ≠ s := by
        unfold TL.pre at h
        simpa using h
      rw [TL.spl_miss h, spl_len s r, List.count_cons_of_ne (by simpa using e)]
theorem words_len (t : Str) : (wordsOf t).length = (TL.tl t).count 32 + 1 := by
  have := congrArg List.length (words_tl t)
  rw [List.length_map, spl_len] at this
  exact this
theorem lines_len (t : Str) : (linesOf t).length = (TL.tl t).count 10 + 1 := by
  have := congrArg List.length (lines_tl t)
  rw [List.length_map, spl_len] at this
  exact this
theorem spl_mem {s : Nat} : ∀ (L acc p : List Nat), p ∈ TL.spl [s] 0 acc L → p.length ≤ acc.length + L.length ∧ ∀ d, p.count d ≤ acc.count d + L.count d
  | [], acc, p, h => by
    rw [TL.spl_nil, List.mem_singleton] at h
    subst h
    exact ⟨Nat.le_add_right _ _, fun d => Nat.le_add_right _ _⟩
  | c :: r, acc, p, h => by
    have cl : (c :: r).length = r.length + 1 := List.length_cons
    have cc : ∀ d, r.count d ≤ (c :: r).count d := fun d => List.count_le_count_cons
    cases k : TL.pre [s] (c :: r) with
    | true =>
      rw [TL.spl_hit k] at h
      rcases List.mem_cons.mp h with e | h
      · rw [e]
        exact ⟨by omega, fun d => Nat.le_add_right _ _⟩
      · have z := spl_mem r [] p h
        rw [List.length_nil] at z
        exact ⟨by omega, fun d => by have := z.2 d; have := cc d; rw [List.count_nil] at *; omega⟩
    | false =>
      rw [TL.spl_miss k] at h
      have z := spl_mem r (acc ++ [c]) p h
      rw [List.length_append, List.length_singleton] at z
      refine ⟨by omega, fun d => ?_⟩
      have := z.2 d
      rw [List.count_append] at this
      have e : List.count d (c :: r) = List.count d [c] + List.count d r := by
        rw [← List.singleton_append, List.count_append]
      omega
theorem words_mem {t w : Str} (h : w ∈ wordsOf t) : w.length ≤ t.length := by
  have m : TL.tl w ∈ TL.spl [32] 0 [] (TL.tl t) := by rw [← words_tl]; exact List.mem_map_of_mem h
  have := (spl_mem _ _ _ m).1
  rw [TL.len_tl, TL.len_tl]
  rw [List.length_nil] at this
  omega
theorem lines_mem {t w : Str} (h : w ∈ linesOf t) : w.length ≤ t.length := by
  have m : TL.tl w ∈ TL.spl [10] 0 [] (TL.tl t) := by rw [← lines_tl]; exact List.mem_map_of_mem h
  have := (spl_mem _ _ _ m).1
  rw [TL.len_tl, TL.len_tl]
  rw [List.length_nil] at this
  omega
theorem spl_sum {s : Nat} : ∀ (L acc : List Nat), ((TL.spl [s] 0 acc L).map List.length).sum + L.count s = acc.length + L.length
  | [], acc => by rw [TL.spl_nil]; simp
  | c :: r, acc => by
    cases k : TL.pre [s] (c :: r) with
    | true =>
      have e : c = s := by
        unfold TL.pre at k
        simpa using k
      have ih := spl_sum (s := s) r []
      rw [TL.spl_hit k]
      show (((acc :: TL.spl [s] 0 [] r)).map List.length).sum + _ = _
      rw [List.map_cons, List.sum_cons, e, List.count_cons_self, List.length_cons]
      rw [List.length_nil] at ih
      omega
    | false =>
      have e : c ≠ s := by
        unfold TL.pre at k
        simpa using k
      have ih := spl_sum (s := s) r (acc ++ [c])
      rw [TL.spl_miss k, List.count_cons_of_ne (by simpa using e), List.length_cons]
      rw [List.length_append, List.length_singleton] at ih
      omega
theorem words_sum (t : Str) : ((wordsOf t).map (·.length)).sum + (wordsOf t).length = t.length + 1 := by
  have h := spl_sum (s := 32) (TL.tl t) []
  rw [← words_tl, List.map_map] at h
  have e : (wordsOf t).map (List.length ∘ TL.tl) = (wordsOf t).map (·.length) := List.map_congr_left fun w _ => by
    show (TL.tl w).length = w.length
    rw [TL.len_tl]
  rw [e] at h
  rw [words_len, TL.len_tl t]
  rw [List.length_nil] at h
  omega
end
/-- a text of valid signs -/
def Fit (s : Str) : Prop := ∀ c ∈ TL.tl s, c < 128
theorem Fit.all {s : Str} (h : Fit s) : ∀ c ∈ s.cps.toList, c < 0x110000 := fun c hc => Nat.lt_trans (h c hc) (by decide)
theorem fit_strOk {s : Str} (h : Fit s) : PyData.strOk s = true := by
  unfold PyData.strOk
  rw [← Array.all_toList, List.all_eq_true]
  intro c hc
  exact decide_eq_true (h.all c hc)
theorem fit_words {t w : Str} (h : Fit t) (m : w ∈ wordsOf t) : Fit w := fun c hc => by
  have q : TL.tl w ∈ TL.spl [32] 0 [] (TL.tl t) := by rw [← words_tl]; exact List.mem_map_of_mem m
  have z := (spl_mem _ _ _ q).2 c
  rw [List.count_nil] at z
  have p : 0 < (TL.tl w).count c := List.count_pos_iff.mpr hc
  exact h c (List.count_pos_iff.mp (show 0 < (TL.tl t).count c by omega))
theorem fit_lines {t w : Str} (h : Fit t) (m : w ∈ linesOf t) : Fit w := fun c hc => by
  have q : TL.tl w ∈ TL.spl [10] 0 [] (TL.tl t) := by rw [← lines_tl]; exact List.mem_map_of_mem m
  have z := (spl_mem _ _ _ q).2 c
  rw [List.count_nil] at z
  have p : 0 < (TL.tl w).count c := List.count_pos_iff.mpr hc
  exact h c (List.count_pos_iff.mp (show 0 < (TL.tl t).count c by omega))
/-- texts joined -/
def joinW (y : Str) (us : List Str) : Str := Txt.join y us
theorem joinW_tl (y : Str) (us : List Str) : TL.tl (joinW y us) = TL.joinL (TL.tl y) (us.map TL.tl) := by
  unfold joinW
  rw [TL.join_eq, TL.tl_join]
theorem joinL_len {s : Nat} : ∀ ps : List (List Nat), (TL.joinL [s] ps).length ≤ (ps.map List.length).sum + (ps.length - 1)
  | [] => Nat.zero_le _
  | [p] => by
    show p.length ≤ _
    simp
  | p :: q :: r => by
    have ih := joinL_len (s := s) (q :: r)
    show (p ++ ([s] ++ TL.joinL [s] (q :: r))).length ≤ _
    rw [List.length_append, List.length_append, List.length_singleton, List.map_cons, List.sum_cons, List.length_cons (a := p)]
    have l : 1 ≤ (q :: r).length := by rw [List.length_cons]; omega
    omega
theorem joinL_mem {s : Nat} : ∀ {ps : List (List Nat)} {c : Nat}, c ∈ TL.joinL [s] ps → c = s ∨ ∃ p ∈ ps, c ∈ p
  | [], c, h => by cases h
  | [p], c, h => .inr ⟨p, List.mem_singleton_self _, h⟩
  | p :: q :: r, c, h => by
    have h' : c ∈ p ++ ([s] ++ TL.joinL [s] (q :: r)) := h
    rcases List.mem_append.mp h' with z | z
    · exact .inr ⟨p, List.mem_cons_self, z⟩
    · rcases List.mem_append.mp z with z | z
      · exact .inl (List.mem_singleton.mp z)
      · rcases joinL_mem z with y | ⟨x, hx, y⟩
        · exact .inl y
        · exact .inr ⟨x, List.mem_cons_of_mem _ hx, y⟩
theorem joinW_len {y : Str} {c : Nat} (e : TL.tl y = [c]) (us : List Str) : (joinW y us).length ≤ (us.map (·.length)).sum + (us.length - 1) := by
  rw [TL.len_tl, joinW_tl, e]
  have h := joinL_len (s := c) (us.map TL.tl)
  rw [List.map_map, List.length_map] at h
  have q : us.map (List.length ∘ TL.tl) = us.map (·.length) := List.map_congr_left fun w _ => by
    show (TL.tl w).length = w.length
    rw [TL.len_tl]
  rw [q] at h
  exact h
theorem joinW_fit {y : Str} {c : Nat} (e : TL.tl y = [c]) (hc : c < 128) {us : List Str} (h : ∀ w ∈ us, Fit w) : Fit (joinW y us) := fun x hx => by
  rw [joinW_tl, e] at hx
  rcases joinL_mem hx with z | ⟨p, hp, z⟩
  · rw [z]; exact hc
  · obtain ⟨w, hw, rfl⟩ := List.mem_map.mp hp
    exact h w hw x z
theorem sum_bound {α : Type} (f : α → Nat) {n : Nat} : ∀ {xs : List α}, (∀ x ∈ xs, f x ≤ n) → (xs.map f).sum ≤ xs.length * n
  | [], _ => Nat.zero_le _
  | x :: r, h => by
    have a := sum_bound f (xs := r) fun y hy => h y (List.mem_cons_of_mem _ hy)
    have b := h x List.mem_cons_self
    rw [List.map_cons, List.sum_cons, List.length_cons, Nat.add_mul, Nat.one_mul]
    omega
theorem sum_app {α : Type} (f : α → Nat) (a b : List α) : ((a ++ b).map f).sum = (a.map f).sum + (b.map f).sum := by rw [List.map_append, List.sum_append]
theorem sum_cut {α : Type} (f : α → Nat) (ws : List α) (k : Nat) : ((ws.take k).map f).sum + ((ws.drop k).map f).sum = (ws.map f).sum := by rw [← sum_app, List.take_append_drop]
theorem sum_drop {α : Type} (f : α → Nat) (ws : List α) (k : Nat) : ((ws.drop (k + 1)).map f).sum ≤ ((ws.drop k).map f).sum := by
  have e : ws.drop (k + 1) = (ws.drop k).drop 1 := by rw [List.drop_drop]
  rw [e]
  cases ws.drop k with
  | nil => exact Nat.le_refl _
  | cons a r =>
    rw [List.drop_succ_cons, List.drop_zero, List.map_cons, List.sum_cons]
    omega

/-! deeds, their lines and pages -/
abbrev Cell := Str ⊕ Int
def cv : Cell → L2.V
  | .inl s => .str s
  | .inr i => .int i
def cd : Cell → PyData
  | .inl s => .str s
  | .inr i => .int i
def ct : Cell → Str
  | .inl s => s
  | .inr i => Str.ofString (toString i)
abbrev Deed := List Cell
def lineT (d : Deed) : Str := joinW (Str.ofString " ") (d.map ct)
def pageT (ds : List Deed) : Str := joinW (Str.ofString "\n") (ds.map lineT)
def num6 (w : Str) : Bool := decide (w = Str.ofString "0") || (numB w && (decide ((TL.tl w).length ≤ 6) && decide ((TL.tl w).head? ≠ some 45)))
def numN (w : Str) : Int := if w = Str.ofString "0" then 0 else numV w
def rd6 (w : Str) : L2.V := if (bare (TL.tl w)).length ≤ 6 then rdV w else .non
theorem numV_pos {w : Str} (h : numB w = true) (n : (TL.tl w).head? ≠ some 45) : PySem.intText? w = some (numV w) ∧ 0 < numV w ∧ (numV w).natAbs < 10 ^ (TL.tl w).length := by
  obtain ⟨a, b, c, d⟩ := numB_iff.mp h
  have e : bare (TL.tl w) = TL.tl w := if_neg n
  rw [e] at a b c d
  have q := intText_digits (x := w) (dig_all d) a (by rw [← TL.len_tl] at b; omega)
  have v : numV w = ((NumText.digitsVal (TL.tl w) : Nat) : Int) := by unfold numV; rw [q]; rfl
  have p := dv_pos (dig_all d) a c
  have l := dv_lt (TL.tl w) 0 (dig_all d)
  rw [Nat.zero_add, Nat.one_mul] at l
  have l : NumText.digitsVal (TL.tl w) < 10 ^ (TL.tl w).length := l
  rw [v]
  refine ⟨q, by omega, ?_⟩
  rw [Int.natAbs_natCast]
  exact l
theorem numV_neg {w : Str} (h : numB w = true) (n : (TL.tl w).head? = some 45) : numV w < 0 := by
  obtain ⟨a, b, c, d⟩ := numB_iff.mp h
  have e : bare (TL.tl w) = (TL.tl w).tail := if_pos n
  rw [e] at a b c d
  obtain ⟨cs, hx⟩ : ∃ cs, TL.tl w = 45 :: cs := by
    generalize TL.tl w = l at n
    cases l with
    | nil => cases n
    | cons c r => exact ⟨r, by rw [List.head?_cons] at n; rw [Option.some.inj n]⟩
  have hl := TL.len_tl w
  rw [hx] at a b c d hl
  simp only [List.tail_cons] at a b c d
  have q := intText_neg hx (dig_all d) a (by rw [List.length_cons] at hl; omega)
  have p := dv_pos (dig_all d) a c
  unfold numV
  rw [q]
  show -((NumText.digitsVal cs : Nat) : Int) < 0
  omega
theorem zeroT : PySem.intText? (Str.ofString "0") = some 0 := by decide +kernel
theorem num6_int {w : Str} (h : num6 w = true) : PySem.intText? w = some (numN w) ∧ 0 ≤ numN w ∧ numN w < 10 ^ 6 ∧ w.length ≤ 6 := by
  unfold num6 at h
  rw [Bool.or_eq_true, decide_eq_true_eq] at h
  by_cases z : w = Str.ofString "0"
  · unfold numN
    rw [if_pos z, z]
    exact ⟨zeroT, by decide, by decide, by decide +kernel⟩
  · have h := h.resolve_left z
    simp only [Bool.and_eq_true, decide_eq_true_eq] at h
    obtain ⟨h1, h2, h3⟩ := h
    obtain ⟨q1, q2, q3⟩ := numV_pos h1 h3
    unfold numN
    rw [if_neg z]
    refine ⟨q1, by omega, ?_, by rw [TL.len_tl]; exact h2⟩
    have : (10 : Nat) ^ (TL.tl w).length ≤ 10 ^ 6 := Nat.pow_le_pow_right (by decide) h2
    have e : (10 : Int) ^ 6 = ((10 ^ 6 : Nat) : Int) := by norm_cast
    rw [e]
    omega
theorem rd6_yes {w : Str} (h : num6 w = true) : rd6 w = .int (numN w) := by
  unfold num6 at h
  rw [Bool.or_eq_true, decide_eq_true_eq] at h
  unfold rd6 numN
  by_cases z : w = Str.ofString "0"
  · rw [z]
    rw [if_pos (by decide +kernel), if_pos rfl]
    unfold rdV
    rw [numB_zero, if_neg (by decide), if_pos rfl]
  · have h := h.resolve_left z
    simp only [Bool.and_eq_true, decide_eq_true_eq] at h
    obtain ⟨h1, h2, h3⟩ := h
    have e : bare (TL.tl w) = TL.tl w := if_neg h3
    rw [e, if_pos h2, if_neg z]
    unfold rdV
    rw [h1, if_pos rfl]
theorem rd6_no {w : Str} (h : num6 w = false) : rd6 w = .non ∨ ∃ i : Int, i < 0 ∧ rd6 w = .int i := by
  have z : w ≠ Str.ofString "0" := fun z => by rw [z] at h; revert h; decide +kernel
  unfold num6 at h
  rw [decide_eq_false z, Bool.false_or] at h
  unfold rd6
  by_cases l : (bare (TL.tl w)).length ≤ 6
  · rw [if_pos l]
    unfold rdV
    cases b : numB w with
    | false => exact .inl (by rw [if_neg (by decide), if_neg z])
    | true =>
      rw [b, Bool.true_and] at h
      rw [if_pos rfl]
      refine .inr ⟨_, ?_, rfl⟩
      by_cases n : (TL.tl w).head? = some 45
      · exact numV_neg b n
      · have e : bare (TL.tl w) = TL.tl w := if_neg n
        rw [e] at l
        rw [decide_eq_true l, decide_eq_true n] at h
        cases h
  · exact .inl (if_neg l)
theorem num6_look {w : Str} (h0 : 0 < w.length) (h7 : w.length < 7) (hz : (TL.tl w).head? = some 48 → w = Str.ofString "0") : num6 w = (TL.tl w).all dig := by
  by_cases z : w = Str.ofString "0"
  · rw [z]; decide +kernel
  unfold num6
  rw [decide_eq_false z, Bool.false_or]
  have l : (TL.tl w).length ≤ 6 := by rw [← TL.len_tl]; omega
  have ne : TL.tl w ≠ [] := fun e => by rw [TL.len_tl, e] at h0; cases h0
  have n48 : (TL.tl w).head? ≠ some 48 := fun e => z (hz e)
  rw [decide_eq_true l, Bool.true_and]
  by_cases n : (TL.tl w).head? = some 45
  · rw [decide_eq_false (fun e => e n), Bool.and_false]
    generalize TL.tl w = L at n
    cases L with
    | nil => cases n
    | cons a r =>
      rw [List.head?_cons] at n
      rw [Option.some.inj n]
      rfl
  · rw [decide_eq_true n, Bool.and_true]
    have e : bare (TL.tl w) = TL.tl w := if_neg n
    unfold numB
    rw [e, decide_eq_true ne, decide_eq_true (show (TL.tl w).length ≤ 60 by omega), decide_eq_true n48]
    rfl
theorem num6_len {w : Str} (h : num6 w = true) : 0 < w.length ∧ w.length < 7 ∧ ((TL.tl w).head? = some 48 → w = Str.ofString "0") := by
  have q := (num6_int h).2.2.2
  unfold num6 at h
  rw [Bool.or_eq_true, decide_eq_true_eq] at h
  by_cases z : w = Str.ofString "0"
  · exact ⟨by rw [z]; decide +kernel, by omega, fun _ => z⟩
  · have h := h.resolve_left z
    simp only [Bool.and_eq_true, decide_eq_true_eq] at h
    obtain ⟨h1, h2, h3⟩ := h
    obtain ⟨a, b, c, d⟩ := numB_iff.mp h1
    have e : bare (TL.tl w) = TL.tl w := if_neg h3
    rw [e] at a b c d
    refine ⟨?_, by omega, fun n => absurd n c⟩
    rw [TL.len_tl]
    exact List.length_pos_iff.mpr a
/-! what a line tells -/
def okAt (ws : List Str) (j : Nat) : Bool := match ws[j]? with
  | some x => okS x
  | none => false
def bad (ws : List Str) (m : Nat) : Option Nat := (List.range m).find? fun j => !okAt ws (j + 1)
theorem bad_at {ws : List Str} {m j : Nat} (hj : j < m) (h : ∀ i < j, okAt ws (i + 1) = true) (b : okAt ws (j + 1) = false) : bad ws m = some j := by
  unfold bad
  rw [List.find?_range_eq_some]
  refine ⟨by rw [b]; rfl, by simpa using hj, fun i hi => ?_⟩
  rw [h i hi]
  rfl
theorem bad_no {ws : List Str} {m : Nat} (h : ∀ i < m, okAt ws (i + 1) = true) : bad ws m = none := by
  unfold bad
  rw [List.find?_eq_none]
  intro i hi
  rw [h i (by simpa using hi)]
  decide
theorem bad_none {ws : List Str} {m : Nat} (h : bad ws m = none) : ∀ i < m, okAt ws (i + 1) = true := by
  unfold bad at h
  rw [List.find?_eq_none] at h
  intro i hi
  have := h i (by simpa using hi)
  simpa using this
def closeS : Str := Str.ofString "close"
def dueC (w : Str) (r : List Str) : Nat ⊕ Deed := match r with
  | [] => .inl 1
  | x :: r' => if num6 x = true then (if r' = [] then .inr [.inl w, .inr (numN x)] else .inl 2) else .inl 1
def dueN (w : Str) (r : List Str) (n : Int) : Nat ⊕ Deed := match bad (w :: r) (n.toNat - 1) with
  | some j => .inl (j + 1)
  | none => if r.length + 1 = n.toNat then .inr ((w :: r).map .inl) else .inl n.toNat
def dueW (w : Str) (r : List Str) : Nat ⊕ Deed := match sizesL.lookup w with
  | none => .inl 0
  | some n => if w = closeS then dueC w r else dueN w r n
def dueL : List Str → Nat ⊕ Deed
  | [] => .inl 0
  | w :: r => dueW w r
theorem due_none {w : Str} {r : List Str} (h : sizesL.lookup w = none) : dueL (w :: r) = .inl 0 := by
  show dueW w r = _
  unfold dueW
  rw [h]
theorem due_close {w : Str} {r : List Str} (h : w = closeS) : dueL (w :: r) = dueC w r := by
  show dueW w r = _
  unfold dueW
  have e : sizesL.lookup w = some 2 := by rw [h]; decide +kernel
  rw [e]
  exact if_pos h
theorem due_names {w : Str} {r : List Str} {n : Int} (h : sizesL.lookup w = some n) (z : w ≠ closeS) : dueL (w :: r) = dueN w r n := by
  show dueW w r = _
  unfold dueW
  rw [h]
  exact if_neg z
theorem dueC_cases {w : Str} {r : List Str} : (dueC w r = .inl 1 ∧ (∀ x, r[0]? = some x → num6 x = false)) ∨ (∃ x r', r = x :: r' ∧ num6 x = true ∧ ((r' = [] ∧ dueC w r = .inr [.inl w, .inr (numN x)]) ∨ (r' ≠ [] ∧ dueC w r = .inl 2))) := by
  cases r with
  | nil => exact .inl ⟨rfl, fun x h => by cases h⟩
  | cons x r' =>
    cases e : num6 x with
    | false =>
      refine .inl ⟨?_, fun y hy => ?_⟩
      · show (if num6 x = true then _ else _) = _
        rw [e]; rfl
      · have := Option.some.inj hy
        rw [← this]; exact e
    | true =>
      refine .inr ⟨x, r', rfl, e, ?_⟩
      have q : dueC w (x :: r') = if r' = [] then .inr [.inl w, .inr (numN x)] else .inl 2 := by
        show (if num6 x = true then _ else _) = _
        rw [e]; rfl
      by_cases z : r' = []
      · exact .inl ⟨z, by rw [q, if_pos z]⟩
      · exact .inr ⟨z, by rw [q, if_neg z]⟩
theorem dueN_bad {w : Str} {r : List Str} {n : Int} {j : Nat} (h : bad (w :: r) (n.toNat - 1) = some j) : dueN w r n = .inl (j + 1) := by
  unfold dueN; rw [h]
theorem dueN_ok {w : Str} {r : List Str} {n : Int} (h : bad (w :: r) (n.toNat - 1) = none) : dueN w r n = if r.length + 1 = n.toNat then .inr ((w :: r).map .inl) else .inl n.toNat := by
  unfold dueN; rw [h]
def scanD : List Str → Nat → List Deed → (Nat × Nat) ⊕ List Deed
  | [], _, l => .inr l
  | x :: r, i, l => match dueL (wordsOf x) with
    | .inl j => .inl (i, j)
    | .inr d => scanD r (i + 1) (l ++ [d])
def lines0 (t : Str) : List Str := if t = Str.empty then [] else linesOf t
def due (t : Str) : (Nat × Nat) ⊕ List Deed := scanD (lines0 t) 0 []
theorem scan_next {ls : List Str} {i : Nat} {l : List Deed} {x : Str} {d : Deed} (hx : ls[i]? = some x) (e : scanD ls 0 [] = scanD (ls.drop i) i l) (g : dueL (wordsOf x) = .inr d) : scanD ls 0 [] = scanD (ls.drop (i + 1)) (i + 1) (l ++ [d]) := by
  obtain ⟨hi, rfl⟩ := List.getElem?_eq_some_iff.mp hx
  rw [e, List.drop_eq_getElem_cons hi]
  show (match dueL (wordsOf ls[i]) with
    | .inl j => Sum.inl (i, j)
    | .inr d => scanD (ls.drop (i + 1)) (i + 1) (l ++ [d])) = _
  rw [g]
theorem scan_stop {ls : List Str} {i j : Nat} {l : List Deed} {x : Str} (hx : ls[i]? = some x) (e : scanD ls 0 [] = scanD (ls.drop i) i l) (g : dueL (wordsOf x) = .inl j) : scanD ls 0 [] = .inl (i, j) := by
  obtain ⟨hi, rfl⟩ := List.getElem?_eq_some_iff.mp hx
  rw [e, List.drop_eq_getElem_cons hi]
  show (match dueL (wordsOf ls[i]) with
    | .inl j => Sum.inl (i, j)
    | .inr d => scanD (ls.drop (i + 1)) (i + 1) (l ++ [d])) = _
  rw [g]
theorem scan_done {ls : List Str} {l : List Deed} (e : scanD ls 0 [] = scanD (ls.drop ls.length) ls.length l) : scanD ls 0 [] = .inr l := by
  rw [e, List.drop_length]
  rfl
/-! what is told is small -/
def smallC : Cell → Prop
  | .inl s => s.length ≤ 8 ∧ Fit s
  | .inr i => 0 ≤ i ∧ i < 10 ^ 6
structure Small (d : Deed) : Prop where
  len : d.length ≤ 3
  cell : ∀ c ∈ d, smallC c
theorem okS_fit {s : Str} (h : okS s = true) : Fit s := fun c hc => by
  unfold okS at h
  simp only [Bool.and_eq_true, List.all_eq_true, decide_eq_true_eq] at h
  have := (mem_letters c).mp (h.2 c hc)
  omega
theorem okS_len {s : Str} (h : okS s = true) : s.length ≤ 8 := by
  unfold okS at h
  simp only [Bool.and_eq_true, decide_eq_true_eq] at h
  omega
theorem okS_pos {k : Str} (h : okS k = true) : 0 < k.length := by
  unfold okS at h
  simp only [Bool.and_eq_true, decide_eq_true_eq] at h
  exact h.1.1.1
theorem okS_mem {k : Str} (h : okS k = true) : ∀ c ∈ TL.tl k, 97 ≤ c ∧ c < 123 := by
  unfold okS at h
  simp only [Bool.and_eq_true, List.all_eq_true, decide_eq_true_eq] at h
  exact fun c hc => (mem_letters c).mp (h.2 c hc)
theorem lookup_mem : ∀ {l : List (Str × Int)} {w : Str} {n : Int}, l.lookup w = some n → (w, n) ∈ l
  | [], w, n, h => by cases h
  | p :: r, w, n, h => by
    rw [List.lookup_cons] at h
    cases e : w == p.1 with
    | true =>
      rw [e] at h
      have q := Option.some.inj h
      have e2 : w = p.1 := by simpa using e
      rw [e2, ← q]
      exact List.mem_cons_self
    | false =>
      rw [e] at h
      exact List.mem_cons_of_mem _ (lookup_mem h)
theorem size_cases {w : Str} {n : Int} (h : sizesL.lookup w = some n) : (w = Str.ofString "open" ∧ n = 3) ∨ (w = Str.ofString "close" ∧ n = 2) ∨ (w = Str.ofString "move" ∧ n = 2) ∨ (w = Str.ofString "book" ∧ n = 3) ∨ (w = Str.ofString "restart" ∧ n = 2) ∨ (w = Str.ofString "settle" ∧ n = 1) := by
  have m := lookup_mem h
  unfold sizesL at m
  simp only [List.mem_cons, List.not_mem_nil, or_false, Prod.mk.injEq] at m
  exact m
theorem size_ok {w : Str} {n : Int} (h : sizesL.lookup w = some n) : okS w = true ∧ 1 ≤ n ∧ n ≤ 3 := by
  rcases size_cases h with ⟨rfl, rfl⟩ | ⟨rfl, rfl⟩ | ⟨rfl, rfl⟩ | ⟨rfl, rfl⟩ | ⟨rfl, rfl⟩ | ⟨rfl, rfl⟩ <;> exact ⟨by decide +kernel, by decide, by decide⟩
theorem dueL_small {ws : List Str} {d : Deed} (h : dueL ws = .inr d) : Small d := by
  cases ws with
  | nil => cases h
  | cons w r =>
    cases e : sizesL.lookup w with
    | none => rw [due_none e] at h; cases h
    | some n =>
      obtain ⟨ok, n1, n3⟩ := size_ok e
      have sw : smallC (.inl w) := ⟨okS_len ok, okS_fit ok⟩
      by_cases z : w = closeS
      · rw [due_close z] at h
        rcases dueC_cases (w := w) (r := r) with ⟨q, _⟩ | ⟨x, r', rfl, hn, ⟨_, q⟩ | ⟨_, q⟩⟩
        · rw [q] at h; cases h
        · rw [q] at h
          have := Sum.inr.inj h
          subst this
          obtain ⟨_, z0, z1, _⟩ := num6_int hn
          refine ⟨by simp, fun c hc => ?_⟩
          rcases List.mem_cons.mp hc with z | z
          · rw [z]; exact sw
          · rw [List.mem_singleton.mp z]; exact ⟨z0, z1⟩
        · rw [q] at h; cases h
      · rw [due_names e z] at h
        cases b : bad (w :: r) (n.toNat - 1) with
        | some j => rw [dueN_bad b] at h; cases h
        | none =>
          rw [dueN_ok b] at h
          have all := bad_none b
          split at h
          · rename_i hl
            have := Sum.inr.inj h
            subst this
            refine ⟨by rw [List.length_map, List.length_cons]; omega, fun c hc => ?_⟩
            obtain ⟨x, hx, rfl⟩ := List.mem_map.mp hc
            rcases List.mem_cons.mp hx with z | z
            · rw [z]; exact sw
            · obtain ⟨i, hi, e2⟩ := List.mem_iff_getElem.mp z
              have q := all i (by omega)
              unfold okAt at q
              rw [List.getElem?_cons_succ, List.getElem?_eq_getElem hi, e2] at q
              exact ⟨okS_len q, okS_fit q⟩
          · cases h
theorem scan_small : ∀ (ls : List Str) (i : Nat) (l ds : List Deed), scanD ls i l = .inr ds → (∀ d ∈ l, Small d) → (∀ d ∈ ds, Small d) ∧ ds.length = l.length + ls.length
  | [], i, l, ds, h, a => by
    have := Sum.inr.inj h
    subst this
    exact ⟨a, rfl⟩
  | x :: r, i, l, ds, h, a => by
    unfold scanD at h
    cases e : dueL (wordsOf x) with
    | inl j => rw [e] at h; cases h
    | inr d =>
      rw [e] at h
      have z := scan_small r (i + 1) (l ++ [d]) ds h fun y hy => by
        rcases List.mem_append.mp hy with q | q
        · exact a y q
        · rw [List.mem_singleton.mp q]; exact dueL_small e
      refine ⟨z.1, ?_⟩
      rw [z.2, List.length_append, List.length_singleton, List.length_cons]
      omega
theorem bad_lt {ws : List Str} {m k : Nat} (b : bad ws m = some k) : k < m := by
  unfold bad at b
  rw [List.find?_range_eq_some] at b
  simpa using b.2.1
theorem dueL_le {ws : List Str} {j : Nat} (h : dueL ws = .inl j) : j ≤ 4 := by
  cases ws with
  | nil => have := Sum.inl.inj h; omega
  | cons w r =>
    cases e : sizesL.lookup w with
    | none => rw [due_none e] at h; have := Sum.inl.inj h; omega
    | some n =>
      obtain ⟨ok, n1, n3⟩ := size_ok e
      by_cases z : w = closeS
      · rw [due_close z] at h
        rcases dueC_cases (w := w) (r := r) with ⟨q, _⟩ | ⟨x, r', rfl, hn, ⟨_, q⟩ | ⟨_, q⟩⟩
        · rw [q] at h; have := Sum.inl.inj h; omega
        · rw [q] at h; cases h
        · rw [q] at h; have := Sum.inl.inj h; omega
      · rw [due_names e z] at h
        cases b : bad (w :: r) (n.toNat - 1) with
        | some k => rw [dueN_bad b] at h; have := Sum.inl.inj h; have := bad_lt b; omega
        | none =>
          rw [dueN_ok b] at h
          split at h
          · cases h
          · have := Sum.inl.inj h; omega
theorem scan_le : ∀ (ls : List Str) (i : Nat) (l : List Deed) (p : Nat × Nat), scanD ls i l = .inl p → p.1 ≤ i + ls.length ∧ p.2 ≤ 4
  | [], i, l, p, h => by cases h
  | x :: r, i, l, p, h => by
    unfold scanD at h
    cases e : dueL (wordsOf x) with
    | inl j =>
      rw [e] at h
      have := Sum.inl.inj h
      subst this
      exact ⟨by omega, dueL_le e⟩
    | inr d =>
      rw [e] at h
      have z := scan_le r (i + 1) (l ++ [d]) p h
      rw [List.length_cons]
      exact ⟨by omega, z.2⟩
theorem lines0_len {t : Str} (h : t.length ≤ 2000) : (lines0 t).length ≤ 2001 := by
  unfold lines0
  split
  · exact Nat.zero_le _
  · rw [lines_len]
    have := List.count_le_length (a := 10) (l := TL.tl t)
    rw [← TL.len_tl] at this
    omega
theorem lines0_mem {t x : Str} (h : x ∈ lines0 t) : x.length ≤ t.length := by
  unfold lines0 at h
  split at h
  · cases h
  · exact lines_mem h
theorem lines0_fit {t x : Str} (f : Fit t) (h : x ∈ lines0 t) : Fit x := by
  unfold lines0 at h
  split at h
  · cases h
  · exact fit_lines f h

/-! errors, lines, numbers: the program's own defs -/
def Oth (d : Addr) (H H' : Hp) : Prop := ∀ a o, a ≠ d → H a = some o → H' a = some o
theorem g_setf {K : PySem.W.Frag} {ta tv : TE} {f : Str} {D : Ends} {σ : L2.St} {H : Hp} (h : tv σ H fun y H1 => ta σ H1 fun x H2 => ∃ a C dx fs, x = .ref a ∧ H2 a = some (.ins C dx fs) ∧ Cls K C ∧ NoAttr K C f ∧ fs.length < 1000 ∧ D.nx σ (upd H2 a (.ins C dx (putF f y fs)))) : sFld K ta tv f D σ H := h
theorem g_at {K : PySem.W.Frag} {ta : TE} {f : Str} {σ : L2.St} {H : Hp} {Q : VK} (h : ta σ H fun x H1 => ∃ a C dx fs v, x = .ref a ∧ H1 a = some (.ins C dx fs) ∧ Cls K C ∧ NoAttr K C f ∧ fs.lookup f = some v ∧ Q v H1) : L2.tFld K ta f σ H Q := h
theorem none_back {H H' : Hp} {p : Addr} (s : Same H H') (n : H' p = none) : H p = none := by
  cases e : H p with
  | none => rfl
  | some o => rw [s _ _ e] at n; cases n
def fsT (i j : Int) : List (Str × L2.V) := [("word", .int j), ("line", .int i)]
def fsL (i : Nat) (d : Addr) : List (Str × L2.V) := [("index", .int (i : Nat)), ("words", .ref d)]
/-- a line -/
structure LA (C : Addr) (H : Hp) (a : Addr) (i : Nat) (ws : List Str) : Prop where
  ex : ∃ d dx, H a = some (.ins C dx (fsL i d)) ∧ H d = some (.lst (ws.map V.str))
theorem LA.same {C : Addr} {H H' : Hp} {a : Addr} {i : Nat} {ws : List Str} (v : LA C H a i ws) (s : Same H H') : LA C H' a i ws := by
  obtain ⟨d, dx, h1, h2⟩ := v
  exact ⟨d, dx, s _ _ h1, s _ _ h2⟩
theorem fsL_no {i : Nat} {d : Addr} {n : Str} (h1 : (n == ("index" : Str)) = false) (h2 : (n == ("words" : Str)) = false) : (fsL i d).lookup n = none := by
  unfold fsL
  rw [List.lookup_cons, h1, List.lookup_cons, h2]
  rfl
/-- v is no text -/
def NotS (K : PySem.W.Frag) (H : Hp) (v : L2.V) : Prop := ∃ t, TyX K H v t ∧ PySem.W.kitOne K t (.type "str") = some false
/-- the error with these fields -/
def Bad (CT : Addr) (i j : Nat) (H : Hp) (E : XK) : Prop := ∀ d H', H d = none → Same H H' → H' d = some (.xd (fsT (i : Nat) (j : Nat))) → E (.ref CT) (some d) H'
def spTI (C : Addr) : Sp := fun vs H Q _ => ∃ x i j, vs = [.ref x, .int i, .int j] ∧ H x = some (exo x C none) ∧
  ∀ d, H d = none → d ≠ x → Q .non (upd (upd (upd H d (exd d [("line", .int i)])) x (exo x C (some d))) d (exd d (fsT i j)))
def spLinit (C : Addr) : Sp := fun vs H Q _ => ∃ (x dx : Addr) (i : Nat) (t : Str), vs = [.ref x, .int (i : Nat), .str t] ∧ H x = some (.ins C dx []) ∧ t.length ≤ 100000 ∧
  ∀ d H', H d = none → Oth x H H' → H' x = some (.ins C dx (fsL i d)) → H' d = some (.lst ((wordsOf t).map V.str)) → Q .non H'
def spWordAt (CL CT : Addr) : Sp := fun vs H Q E => ∃ (a : Addr) (i j : Nat) (ws : List Str), vs = [.ref a, .int (j : Nat)] ∧ LA CL H a i ws ∧ (∀ x, ws[j]? = some x → Q (.str x) H) ∧ (ws[j]? = none → Bad CT i j H E)
def spNameAbove (CL CT : Addr) : Sp := fun vs H Q E => ∃ (a : Addr) (i j : Nat) (ws : List Str), vs = [.ref a, .int (j : Nat), .str (Str.ofString "")] ∧ LA CL H a i ws ∧ (∀ x ∈ ws, x.length ≤ 100000) ∧
  (∀ x H', ws[j]? = some x → okS x = true → Same H H' → Q (.str x) H') ∧ (okAt ws j = false → Bad CT i j H E)
def spNameAt (CL CT : Addr) : Sp := fun vs H Q E => ∃ (a : Addr) (i j : Nat) (ws : List Str), vs = [.ref a, .int (j : Nat)] ∧ LA CL H a i ws ∧ (∀ x ∈ ws, x.length ≤ 100000) ∧
  (∀ x H', ws[j]? = some x → okS x = true → Same H H' → Q (.str x) H') ∧ (okAt ws j = false → Bad CT i j H E)
def spCountAt (CL CT : Addr) : Sp := fun vs H Q E => ∃ (a : Addr) (i : Nat) (ws : List Str), vs = [.ref a, .int 1] ∧ LA CL H a i ws ∧ (∀ x ∈ ws, x.length ≤ 100000) ∧
  (∀ x, ws[1]? = some x → num6 x = true → Q (.int (numN x)) H) ∧ ((∀ x, ws[1]? = some x → num6 x = false) → Bad CT i 1 H E)
def spEndAt (CL CT : Addr) : Sp := fun vs H Q E => ∃ (a : Addr) (i j : Nat) (ws : List Str), vs = [.ref a, .int (j : Nat)] ∧ LA CL H a i ws ∧ (ws.length ≤ j → Q .non H) ∧ (j < ws.length → Bad CT i j H E)
def spRN : Sp := fun vs H Q _ => ∃ w, vs = [.str w, .int 6] ∧ w.length ≤ 100000 ∧ Q (rd6 w) H
theorem g_ost {K : PySem.W.Frag} {f : Str} {to te : TE} {D : Ends} {σ : L2.St} {H : Hp} (h : te σ H fun y H1 => to σ H1 fun x H2 => ∃ a C : Addr, x = .ref a ∧ OexC K C ∧ PySem.W.findIn K (.ref C) f = some none ∧
  ((H2 a = some (exo a C none) ∧ ∀ dx, H2 dx = none → dx ≠ a → D.nx σ (upd (upd H2 dx (exd dx [(f, y)])) a (exo a C (some dx)))) ∨
    ∃ (dx : Addr) (fs : List (Str × L2.V)), H2 a = some (exo a C (some dx)) ∧ H2 dx = some (exd dx fs) ∧ fs.length ≤ 900 ∧ D.nx σ (upd H2 dx (exd dx ((f, y) :: fs))))) : tOst K f to te D σ H := h
theorem g_mkO {C : Addr} {sp : Sp} {dvs : List L2.V} {ta : TA} {σ : L2.St} {H : Hp} {Q : XK} (h : ta σ H fun vs H1 => vs.length ≤ 1000 ∧ ∀ a, H1 a = none → sp (.ref a :: (vs ++ dvs)) (upd H1 a (exo a C none))
  (fun v H2 => v = .non ∧ ∃ (d : Addr) (fs : List (Str × L2.V)), H2 a = some (exo a C (some d)) ∧ H2 d = some (exd d fs) ∧ H1 d = none ∧ Q (.ref C) (some d) (upd (del H2 a) d (.xd fs))) (fun _ _ _ => False)) : tMkO C sp dvs ta σ H Q := h
theorem raise_T {C : Addr} {H1 : Hp} {i j : Int} {Q : XK} (h : ∀ d H', H1 d = none → Same H1 H' → H' d = some (.xd (fsT i j)) → Q (.ref C) (some d) H') :
    [V.int i, V.int j].length ≤ 1000 ∧ ∀ a, H1 a = none → spTI C (.ref a :: ([V.int i, V.int j] ++ [])) (upd H1 a (exo a C none))
  (fun v H2 => v = .non ∧ ∃ (d : Addr) (fs : List (Str × L2.V)), H2 a = some (exo a C (some d)) ∧ H2 d = some (exd d fs) ∧ H1 d = none ∧ Q (.ref C) (some d) (upd (del H2 a) d (.xd fs))) (fun _ _ _ => False) := by
  refine ⟨show 2 ≤ 1000 by decide, fun a ha => ⟨a, i, j, rfl, upd_same, fun d hd nd => ?_⟩⟩
  have hd1 : H1 d = none := by rw [upd_ne nd] at hd; exact hd
  refine ⟨rfl, d, fsT i j, ?_, upd_same, hd1, h d _ hd1 (fun b o e => ?_) upd_same⟩
  · rw [upd_ne nd.symm]; exact upd_same
  · have n1 : b ≠ d := ne_of_none e hd1
    have n2 : b ≠ a := ne_of_none e ha
    rw [upd_ne n1, del_ne n2, upd_ne n1, upd_ne n2, upd_ne n1, upd_ne n2]
    exact e
theorem g_make {C : Addr} {sp : Sp} {dvs : List L2.V} {E : XK} {t : TA} {σ : L2.St} {H : Hp} {Q : VK} (h : t σ H fun vs H1 => ∀ x dx, H1 x = none → H1 dx = none → dx ≠ x →
  sp (.ref x :: (vs ++ dvs)) (upd (upd H1 dx (.own x)) x (.ins C dx [])) (fun v H2 => v = .non ∧ Q (.ref x) H2) E) : tMake C sp dvs E t σ H Q := h
theorem g_meth {C : Addr} {m : Str} {sp : Sp} {dvs : List L2.V} {E : XK} {ta : TE} {t : TA} {σ : L2.St} {H : Hp} {Q : VK} (h : ta σ H fun x H1 => ∃ a dx fs, x = .ref a ∧ H1 a = some (.ins C dx fs) ∧ fs.lookup m = none ∧ t σ H1 fun vs H2 => sp (x :: (vs ++ dvs)) H2 Q E) : tMeth C m sp dvs E ta t σ H Q := h
theorem g_bm {K : PySem.W.Frag} {T : String} {r : L2.V → List L2.V → Hp → VK → Prop} {to : TE} {t : TA} {σ : L2.St} {H : Hp} {Q : VK} (h : to σ H fun x H1 => tyV K T x H1 ∧ t σ H1 fun xs H2 => r x xs H2 Q) : tBM K T r to t σ H Q := h
theorem len1S : ((Str.ofString " ").length == 0) = false := by decide +kernel
theorem len1N : ((Str.ofString "\n").length == 0) = false := by decide +kernel
theorem lt_empty {k : Str} (h : okS k = true) : lt (Str.ofString "") k := by
  have e : TL.tl (Str.ofString "") = [] := by decide +kernel
  have p := okS_pos h
  rw [TL.len_tl] at p
  show TL.tl (Str.ofString "") < TL.tl k
  rw [e]
  generalize TL.tl k = l at p
  cases l with
  | nil => cases p
  | cons a r => exact List.nil_lt_cons a r
section
variable {P : Program} {w : World} {K : PySem.W.Frag} {mg : Str → Option Value} {base : Heap}
theorem ok_tinit (V : VF K mg) : FnOk P w K mg base CX0 1 V.fTI V.dTI ["self", "line", "word"] (spTI V.CT) := by
  refine V.F_tinit.ok sc_InvalidText___init__ (fun vs H Q E h => ?_) (fun cdv A outer s H vs Q E hr h => ?_)
  · obtain ⟨x, i, j, rfl, _⟩ := h
    rfl
  · obtain ⟨x, i, j, rfl, hx, k⟩ := h
    refine ⟨_, (pss_cons (ps_ost (pv 0) (pv 1))
      (pss_one (ps_ost (pv 0) (pv 2)))), ?_⟩
    try dsimp only [cxOf]
    refine g_seq ?_
    refine g_ost ?_
    walk_at "hx"
    refine ⟨x, V.CT, rfl, V.o_T, V.n_line, .inl ⟨hx, fun d hd nd => ?_⟩⟩
    walk_at "hx"
    refine g_ost ?_
    walk_at "hx"
    refine ⟨x, V.CT, rfl, V.o_T, V.n_word, .inr ⟨d, [("line", .int i)], upd_same, ?_, (show 1 ≤ 900 by decide), ?_⟩⟩
    · rw [upd_ne nd]; exact upd_same
    · walk_at "hx"
      exact k d hd nd
theorem ok_linit (V : VF K mg) : FnOk P w K mg base CX0 1 V.fNI V.dNI ["self", "index", "text"] (spLinit V.CL) := by
  refine V.F_linit.ok sc_Line___init__ (fun vs H Q E h => ?_) (fun cdv A outer s H vs Q E hr h => ?_)
  · obtain ⟨x, dx, i, t, rfl, _⟩ := h
    rfl
  · obtain ⟨x, dx, i, t, rfl, hx, ht, k⟩ := h
    refine ⟨_, (pss_cons (ps_fld (pv 0) (pv 1) rfl)
      (pss_one (ps_fld (pv 0) (pe_bm PySem.F.plainAttrs_str PySem.F.slot_str_split PySem.F.type_str_split mt_split (pv 2) (pa_cons pe_str pa_nil)) rfl))), ?_⟩
    try dsimp only [cxOf]
    refine g_seq ?_
    refine g_setf ?_
    walk_at "hx"
    refine ⟨x, V.CL, dx, [], rfl, hx, V.c_L, V.n_index, by decide, ?_⟩
    walk_at "hx"
    refine g_setf ?_
    refine g_bm ?_
    walk_at "hx"
    refine ⟨t, _, rfl, rfl, len1S, Nat.le_trans (show t.length + 2 ≤ 200000 by omega) (by decide), ?_⟩
    intro d hd
    walk_at "hx"
    have ndx : d ≠ x := fun e => by rw [e, upd_same] at hd; cases hd
    have hd1 : H d = none := by rw [upd_ne ndx] at hd; exact hd
    refine ⟨x, V.CL, dx, [("index", .int (i : Nat))], rfl, ?_, V.c_L, V.n_words, (show 1 < 1000 by decide), ?_⟩
    · rw [upd_ne ndx.symm]; exact upd_same
    · walk_at "hx"
      refine k d _ hd1 (fun a o n e => ?_) upd_same ?_
      · rw [upd_ne n, upd_ne (ne_of_none e hd1), upd_ne n]
        exact e
      · rw [upd_ne ndx]; exact upd_same
theorem ok_word_at (V : VF K mg) : FnOk P w K mg base (L2.CX P w) 3 V.fWA V.dWA ["self", "at"] (spWordAt V.CL V.CT) := by
  have G_tinit := ok_tinit (P := P) (w := w) (base := base) V
  refine V.F_wordat.okX sc_Line_word_at (fun vs H Q E h => ?_) (fun cdv A outer s H vs Q E hr h => ?_)
  · obtain ⟨a, i, j, ws, rfl, _⟩ := h
    rfl
  · obtain ⟨a, i, j, ws, rfl, ⟨d, dx, h1, h2⟩, k1, k2⟩ := h
    have T := V.t
    refine ⟨_, (pss_cons (ps_if (pt_cmpR op_ge (pv 1) (pe_callB call_lenL (by rfl) T.len (by decide +kernel) (pa_cons (L2.pe_fld (pv 0) (by rfl)) pa_nil)) (nomark _)) (pss_one (ps_raise rfl (takes_of rfl rfl rfl rfl) (pmk_oex V.o_T V.i_T V.t_T G_tinit (hr.mono (by decide)) V.b_tinit .nil pass0 (by rfl) V.g_InvalidText (by exact (pa_cons (L2.pe_fld (pv 0) (by rfl)) (pa_cons (pv 1) pa_nil)))))) pss_nil)
      (pss_one (ps_ret (pe_ix ix_list (L2.pe_fld (pv 0) (by rfl)) (pv 1) (fun _ _ => rfl))))), ?_⟩
    try dsimp only [cxOf]
    walk_at "hgo"
    refine g_at ?_
    walk_at "hgo"
    refine ⟨a, V.CL, dx, _, .ref d, rfl, h1, V.c_L, V.n_words, rfl, ?_⟩
    walk_at "hgo"
    cases e : ws[j]? with
    | none =>
      have hj : ws.length ≤ j := List.getElem?_eq_none_iff.mp e
      refine g_true (by rw [List.length_map]; exact decide_eq_true (by omega)) ?_
      refine g_mkO ?_
      walk_at "hgo"
      refine g_at ?_
      walk_at "hgo"
      refine ⟨a, V.CL, dx, _, .int (i : Nat), rfl, h1, V.c_L, V.n_index, rfl, ?_⟩
      walk_at "hgo"
      exact raise_T (k2 e)
    | some x =>
      have hj : j < ws.length := by
        obtain ⟨q, _⟩ := List.getElem?_eq_some_iff.mp e
        exact q
      refine g_false (by rw [List.length_map]; exact decide_eq_false (by omega)) ?_
      walk_at "hgo"
      refine g_at ?_
      walk_at "hgo"
      refine ⟨a, V.CL, dx, _, .ref d, rfl, h1, V.c_L, V.n_words, rfl, ?_⟩
      walk_at "hgo"
      refine g_ixL (SqL.of h2) (atI_nat (by rw [List.getElem?_map, e]; rfl)) ?_
      walk_at "hgo"
      exact k1 x e
theorem ok_end_at (V : VF K mg) : FnOk P w K mg base (L2.CX P w) 3 V.fEA V.dEA ["self", "at"] (spEndAt V.CL V.CT) := by
  have G_tinit := ok_tinit (P := P) (w := w) (base := base) V
  refine V.F_endat.okX sc_Line_end_at (fun vs H Q E h => ?_) (fun cdv A outer s H vs Q E hr h => ?_)
  · obtain ⟨a, i, j, ws, rfl, _⟩ := h
    rfl
  · obtain ⟨a, i, j, ws, rfl, ⟨d, dx, h1, h2⟩, k1, k2⟩ := h
    have T := V.t
    refine ⟨_, (pss_one (ps_if (pt_cmpR op_gt (pe_callB call_lenL (by rfl) T.len (by decide +kernel) (pa_cons (L2.pe_fld (pv 0) (by rfl)) pa_nil)) (pv 1) (nomark _)) (pss_one (ps_raise rfl (takes_of rfl rfl rfl rfl) (pmk_oex V.o_T V.i_T V.t_T G_tinit (hr.mono (by decide)) V.b_tinit .nil pass0 (by rfl) V.g_InvalidText (by exact (pa_cons (L2.pe_fld (pv 0) (by rfl)) (pa_cons (pv 1) pa_nil)))))) pss_nil)), ?_⟩
    try dsimp only [cxOf]
    walk_at "hgo"
    refine g_at ?_
    walk_at "hgo"
    refine ⟨a, V.CL, dx, _, .ref d, rfl, h1, V.c_L, V.n_words, rfl, ?_⟩
    walk_at "hgo"
    by_cases c : j < ws.length
    · refine g_true (by rw [List.length_map]; simp; omega) ?_
      refine g_mkO ?_
      walk_at "hgo"
      refine g_at ?_
      walk_at "hgo"
      refine ⟨a, V.CL, dx, _, .int (i : Nat), rfl, h1, V.c_L, V.n_index, rfl, ?_⟩
      walk_at "hgo"
      exact raise_T (k2 c)
    · refine g_false (by rw [List.length_map]; simp; omega) ?_
      walk_at "hgo"
      exact k1 (by omega)
theorem ok_name_above (V : VF K mg) : FnOk P w K mg base (L2.CX P w) 4 V.fNB V.dNB ["self", "at", "last"] (spNameAbove V.CL V.CT) := by
  have G_tinit := ok_tinit (P := P) (w := w) (base := base) V
  have G_wordat := ok_word_at (P := P) (w := w) (base := base) V
  have G_is_name := k_is_name (P := P) (w := w) (base := base) V
  refine V.F_nameabove.okX sc_Line_name_above (fun vs H Q E h => ?_) (fun cdv A outer s H vs Q E hr h => ?_)
  · obtain ⟨a, i, j, ws, rfl, _⟩ := h
    rfl
  · obtain ⟨a, i, j, ws, rfl, la, sm, k1, k2⟩ := h
    obtain ⟨d, dx, h1, h2⟩ := id la
    have T := V.t
    refine ⟨_, (pss_cons (ps_set (i := 3) sc_Line_name_above.nd rfl (Or.inl rfl) (pe_meth (pv 0) V.c_L V.m_wordat G_wordat (hr.mono (by decide)) V.b_wordat .nil (passes_call (takes_of rfl rfl rfl rfl) (fun _ _ _ _ h => h)) (pa_cons (pv 1) pa_nil)))
      (pss_cons (ps_if (PW.pt (pw_or (pt_not (pt_val (pe_call G_is_name (hr.mono (by decide)) (by rfl) V.g_is_name V.F_is_name.kp V.b_is_name .nil pass0 (pa_cons (pv 3) pa_nil)))) (pw_or1 (pt_cmpR op_le_str (pv 3) (pv 2) (nomark _))))) (pss_one (ps_raise rfl (takes_of rfl rfl rfl rfl) (pmk_oex V.o_T V.i_T V.t_T G_tinit (hr.mono (by decide)) V.b_tinit .nil pass0 (by rfl) V.g_InvalidText (by exact (pa_cons (L2.pe_fld (pv 0) (by rfl)) (pa_cons (pv 1) pa_nil)))))) pss_nil)
      (pss_one (ps_ret (pv 3))))), ?_⟩
    try dsimp only [cxOf]
    rw [show L2.start N_Line_name_above [.ref a, .int (j : Nat), .str (Str.ofString "")] = [some (.ref a), some (.int (j : Nat)), some (.str (Str.ofString "")), none] from rfl]
    walk_at "hgo"
    refine g_meth ?_
    walk_at "hgo"
    refine ⟨a, dx, _, rfl, h1, fsL_no (by decide +kernel) (by decide +kernel), ?_⟩
    walk_at "hgo"
    refine ⟨a, i, j, ws, rfl, la, fun x hx => ?_, fun e => ?_⟩
    · walk_at "hgo"
      have lx := sm x (List.mem_of_getElem? hx)
      refine ⟨.str x, "str", rfl, .str _ (by omega), ?_⟩
      intro H4 s4
      show ∃ k, L2.V.bl (okS x) = .bl k ∧ _
      refine ⟨_, rfl, ?_⟩
      have oa : okAt ws j = okS x := by unfold okAt; rw [hx]
      cases g1 : okS x with
      | false =>
        refine g_true rfl ?_
        refine g_true rfl ?_
        refine g_mkO ?_
        walk_at "hx"
        refine g_at ?_
        walk_at "hx"
        refine ⟨a, V.CL, dx, _, .int (i : Nat), rfl, s4 _ _ h1, V.c_L, V.n_index, rfl, ?_⟩
        walk_at "hx"
        exact raise_T fun D H' hD s' e' => k2 (oa.trans g1) D H' (none_back s4 hD) (same_trans s4 s') e'
      | true =>
        refine g_false rfl ?_
        walk_at "hx"
        refine ⟨_, _, rfl, rfl, ?_⟩
        have l := lt_empty g1
        rw [show decide ((Str.ofString "").cps.toList < x.cps.toList) = true from decide_eq_true l]
        refine ⟨false, rfl, ?_⟩
        refine g_false rfl ?_
        walk_at "hgo"
        exact k1 x H4 hx g1 s4
    · refine fun D H' hD s' e' => k2 (by unfold okAt; rw [e]) D H' hD s' e'
theorem ok_name_at (V : VF K mg) : FnOk P w K mg base (L2.CX P w) 5 V.fNA V.dNA ["self", "at"] (spNameAt V.CL V.CT) := by
  have G_nameabove := ok_name_above (P := P) (w := w) (base := base) V
  refine V.F_nameat.okX sc_Line_name_at (fun vs H Q E h => ?_) (fun cdv A outer s H vs Q E hr h => ?_)
  · obtain ⟨a, i, j, ws, rfl, _⟩ := h
    rfl
  · obtain ⟨a, i, j, ws, rfl, la, sm, k1, k2⟩ := h
    obtain ⟨d, dx, h1, h2⟩ := id la
    have T := V.t
    refine ⟨_, (pss_one (ps_ret (pe_meth (pv 0) V.c_L V.m_nameabove G_nameabove (hr.mono (by decide)) V.b_nameabove .nil (passes_call (takes_of rfl rfl rfl rfl) (fun _ _ _ _ h => h)) (pa_cons (pv 1) (pa_cons pe_str pa_nil))))), ?_⟩
    try dsimp only [cxOf]
    walk_at "hgo"
    refine g_meth ?_
    walk_at "hgo"
    refine ⟨a, dx, _, rfl, h1, fsL_no (by decide +kernel) (by decide +kernel), ?_⟩
    walk_at "hgo"
    exact ⟨a, i, j, ws, rfl, la, sm, k1, k2⟩
theorem ok_read_number (V : VF K mg) : FnOk P w K mg base CX0 1 V.fRN V.dRN ["word", "most"] spRN := by
  refine V.F_read_number.ok sc_read_number (fun vs H Q E h => ?_) (fun cdv A outer s H vs Q E hr h => ?_)
  · obtain ⟨w', rfl, _⟩ := h
    rfl
  · obtain ⟨x, rfl, hw, k⟩ := h
    have T := V.t
    refine ⟨_, (pss_cons (ps_set (i := 2) sc_read_number.nd rfl (Or.inl rfl) (pe_bm PySem.F.plainAttrs_str PySem.F.slot_str_removeprefix PySem.F.type_str_removeprefix mt_removeprefix (pv 0) (pa_cons pe_str pa_nil)))
      (pss_cons (ps_if (PW.pt (pw_or (pt_not (PW.pt (pw_and (pt_val (pe_bm0 PySem.F.plainAttrs_str PySem.F.slot_str_isascii PySem.F.type_str_isascii mt_isasciiB (pv 2))) (pw_and1 (pt_val (pe_bm0 PySem.F.plainAttrs_str PySem.F.slot_str_isdigit PySem.F.type_str_isdigit mt_isdigit (pv 2))))))) (pw_or1 (pt_cmpR op_gt (pe_callB call_lenS (by rfl) T.len (by decide +kernel) (pa_cons (pv 2) pa_nil)) (pv 1) (nomark _))))) (pss_one (ps_ret pe_non)) pss_nil)
      (pss_cons (ps_if (PW.pt (pw_and (pt_val (pe_bm PySem.F.plainAttrs_str PySem.F.slot_str_startswith PySem.F.type_str_startswith mt_startswith (pv 2) (pa_cons pe_str pa_nil))) (pw_and1 (pt_cmpR op_ne (pv 0) pe_str (nomark _))))) (pss_one (ps_ret pe_non)) pss_nil)
      (pss_one (ps_ret (pe_callTy call_int_str (by rfl) T.int (by decide +kernel) (pa_cons (pv 0) pa_nil))))))), ?_⟩
    try dsimp only [cxOf]
    refine g_seq ?_
    walk_at "hx"
    refine g_bm ?_
    walk_at "hx"
    have hw2 : x.length ≤ sizeLine := small_of (by omega)
    refine ⟨x, _, rfl, rfl, hw2, ?_⟩
    walk_at "hgo"
    have tlD := rempre x
    have isD := dig_is (Txt.removeprefix x (Str.ofString "-"))
    have lnD : (Txt.removeprefix x (Str.ofString "-")).length = (bare (TL.tl x)).length := by rw [TL.len_tl, tlD]
    have lnD2 : (bare (TL.tl x)).length ≤ x.length := by
      rw [TL.len_tl]
      unfold bare
      split
      · rw [List.length_tail]; omega
      · exact Nat.le_refl _
    have st := starts0 (Txt.removeprefix x (Str.ofString "-"))
    rw [tlD] at isD st
    generalize Txt.removeprefix x (Str.ofString "-") = D at tlD isD lnD st ⊢
    have nonV : (decide (bare (TL.tl x) ≠ []) && (bare (TL.tl x)).all dig) = false ∨ 6 < (bare (TL.tl x)).length → rd6 x = .non := fun z => by
      unfold rd6
      by_cases l : (bare (TL.tl x)).length ≤ 6
      · rw [if_pos l]
        have z := z.resolve_right (by omega)
        have n1 : numB x = false := by
          cases e : numB x with
          | false => rfl
          | true =>
            obtain ⟨q1, q2, _, q4⟩ := numB_iff.mp e
            rw [decide_eq_true q1, q4] at z; cases z
        have n2 : x ≠ Str.ofString "0" := fun e => by
          rw [e] at z; revert z; decide +kernel
        unfold rdV
        rw [n1, if_neg (by decide), if_neg n2]
      · exact if_neg l
    cases e1 : Txt.isascii D with
    | false =>
      rw [e1] at isD
      refine iteF ?_
      walk_at "hgo"
      rw [nonV (.inl isD.symm)] at k
      exact k
    | true =>
      rw [e1] at isD
      refine iteT ?_
      walk_at "hgo"
      refine ⟨rfl, trivial, ?_⟩
      walk_at "hgo"
      cases e2 : Txt.isdigit D with
      | false =>
        rw [e2] at isD
        walk_at "hgo"
        rw [nonV (.inl isD.symm)] at k
        exact k
      | true =>
        rw [e2] at isD
        walk_at "hgo"
        refine g_lenS (small_of (by omega)) ?_
        walk_at "hgo"
        by_cases c : 6 < (bare (TL.tl x)).length
        · refine g_true (by rw [lnD]; exact decide_eq_true (by omega)) ?_
          walk_at "hgo"
          rw [nonV (.inr c)] at k
          exact k
        · refine g_false (by rw [lnD]; exact decide_eq_false (by omega)) ?_
          have rv : rd6 x = rdV x := if_pos (by omega)
          rw [rv] at k
          walk_at "hgo"
          refine g_bm ?_
          walk_at "hgo"
          refine ⟨D, _, rfl, rfl, ?_⟩
          walk_at "hgo"
          have al : decide (bare (TL.tl x) ≠ []) = true ∧ (bare (TL.tl x)).all dig = true := by
            have z : (decide (bare (TL.tl x) ≠ []) && (bare (TL.tl x)).all dig) = true := isD.symm
            exact Bool.and_eq_true_iff.mp z
          by_cases h48 : (bare (TL.tl x)).head? = some 48
          · have nB : numB x = false := by
              cases e : numB x with
              | false => rfl
              | true => exact absurd h48 (numB_iff.mp e).2.2.1
            refine g_true (by rw [st]; exact decide_eq_true h48) ?_
            walk_at "hgo"
            by_cases z : x = Str.ofString "0"
            · refine g_false (by simp [z]) ?_
              walk_at "hgo"
              refine ⟨x, 0, rfl, by rw [z]; decide +kernel, by rw [z]; decide +kernel, ?_⟩
              unfold rdV at k
              rw [nB, if_neg (by decide), if_pos z] at k
              exact k
            · refine g_true (by simp [z]) ?_
              walk_at "hgo"
              unfold rdV at k
              rw [nB, if_neg (by decide), if_neg z] at k
              exact k
          · have nB : numB x = true := numB_iff.mpr ⟨of_decide_eq_true al.1, by omega, h48, al.2⟩
            refine g_false (by rw [st]; exact decide_eq_false h48) ?_
            walk_at "hgo"
            obtain ⟨e, _, _, lx⟩ := num_int nB
            refine ⟨x, numV x, rfl, e, by omega, ?_⟩
            unfold rdV at k
            rw [nB, if_pos rfl] at k
            exact k
theorem ok_count_at (V : VF K mg) : FnOk P w K mg base (L2.CX P w) 4 V.fCA V.dCA ["self", "at"] (spCountAt V.CL V.CT) := by
  have G_tinit := ok_tinit (P := P) (w := w) (base := base) V
  have G_wordat := ok_word_at (P := P) (w := w) (base := base) V
  have G_read_number := ok_read_number (P := P) (w := w) (base := base) V
  refine V.F_countat.okX sc_Line_count_at (fun vs H Q E h => ?_) (fun cdv A outer s H vs Q E hr h => ?_)
  · obtain ⟨a, i, ws, rfl, _⟩ := h
    rfl
  · obtain ⟨a, i, ws, rfl, la, sm, k1, k2⟩ := h
    obtain ⟨d, dx, h1, h2⟩ := id la
    have T := V.t
    refine ⟨_, (pss_cons (ps_set (i := 2) sc_Line_count_at.nd rfl (Or.inl rfl) (pe_call G_read_number (hr.mono (by decide)) (by rfl) V.g_read_number V.F_read_number.kp V.b_read_number .nil pass0 (pa_cons (pe_meth (pv 0) V.c_L V.m_wordat G_wordat (hr.mono (by decide)) V.b_wordat .nil (passes_call (takes_of rfl rfl rfl rfl) (fun _ _ _ _ h => h)) (pa_cons (pv 1) pa_nil)) (pa_cons (pe_glob (v := .int 6) rfl V.g_od V.r_od) pa_nil))))
      (pss_cons (ps_if (PW.pt (pw_or (pt_cmpR op_isN (pv 2) pe_non (nomark _)) (pw_or1 (pt_cmpR op_lt (pv 2) pe_int (nomark _))))) (pss_one (ps_raise rfl (takes_of rfl rfl rfl rfl) (pmk_oex V.o_T V.i_T V.t_T G_tinit (hr.mono (by decide)) V.b_tinit .nil pass0 (by rfl) V.g_InvalidText (by exact (pa_cons (L2.pe_fld (pv 0) (by rfl)) (pa_cons (pv 1) pa_nil)))))) pss_nil)
      (pss_one (ps_ret (pv 2))))), ?_⟩
    try dsimp only [cxOf]
    rw [show L2.start N_Line_count_at [.ref a, .int 1] = [some (.ref a), some (.int 1), none] from rfl]
    walk_at "hgo"
    refine g_meth ?_
    walk_at "hgo"
    refine ⟨a, dx, _, rfl, h1, fsL_no (by decide +kernel) (by decide +kernel), ?_⟩
    walk_at "hgo"
    refine ⟨a, i, 1, ws, rfl, la, fun x hx => ?_, fun e => ?_⟩
    · walk_at "hgo"
      have lx := sm x (List.mem_of_getElem? hx)
      refine ⟨x, rfl, by omega, ?_⟩
      walk_at "hgo"
      cases e : num6 x with
      | true =>
        rw [rd6_yes e]
        walk_at "hgo"
        refine ⟨rfl, ?_⟩
        walk_at "hgo"
        refine g_false (decide_eq_false (by have := (num6_int e).2.1; omega)) ?_
        walk_at "hgo"
        exact k1 x hx e
      | false =>
        have kk : ∀ D H', H D = none → Same H H' → H' D = some (.xd (fsT (i : Nat) ((1 : Nat) : Int))) → E (.ref V.CT) (some D) H' := fun D H' hD s' e' => k2 (fun y hy => by rw [hx] at hy; rw [← Option.some.inj hy]; exact e) D H' hD s' e'
        rcases rd6_no e with z | ⟨n, hn, z⟩
        · rw [z]
          walk_at "hgo"
          refine ⟨rfl, ?_⟩
          walk_at "hgo"
          refine g_mkO ?_
          walk_at "hgo"
          refine g_at ?_
          walk_at "hgo"
          refine ⟨a, V.CL, dx, _, .int (i : Nat), rfl, h1, V.c_L, V.n_index, rfl, ?_⟩
          walk_at "hgo"
          exact raise_T kk
        · rw [z]
          walk_at "hgo"
          refine ⟨rfl, ?_⟩
          walk_at "hgo"
          refine g_true (decide_eq_true hn) ?_
          refine g_mkO ?_
          walk_at "hgo"
          refine g_at ?_
          walk_at "hgo"
          refine ⟨a, V.CL, dx, _, .int (i : Nat), rfl, h1, V.c_L, V.n_index, rfl, ?_⟩
          walk_at "hgo"
          exact raise_T kk
    · refine fun D H' hD s' e' => k2 (fun x hx => by rw [e] at hx; cases hx) D H' hD s' e'
end

/-! deeds in the heap -/
inductive Cells (H : Hp) : List Addr → List Deed → Prop
  | nil : Cells H [] []
  | cons {t : Addr} {ts : List Addr} {d : Deed} {r : List Deed} : H t = some (.tup (d.map cv)) → Cells H ts r → Cells H (t :: ts) (d :: r)
theorem Cells.same {H H' : Hp} (s : Same H H') : ∀ {ts : List Addr} {r : List Deed}, Cells H ts r → Cells H' ts r
  | _, _, .nil => .nil
  | _, _, .cons h t => .cons (s _ _ h) (t.same s)
theorem Cells.snoc {H : Hp} {t : Addr} {p : Deed} (h : H t = some (.tup (p.map cv))) : ∀ {ts : List Addr} {r : List Deed}, Cells H ts r → Cells H (ts ++ [t]) (r ++ [p])
  | _, _, .nil => .cons h .nil
  | _, _, .cons h1 t1 => .cons h1 (t1.snoc h)
theorem Cells.len {H : Hp} : ∀ {ts : List Addr} {r : List Deed}, Cells H ts r → ts.length = r.length
  | _, _, .nil => rfl
  | _, _, .cons _ t => congrArg (· + 1) t.len
theorem Cells.past {H : Hp} {D : Addr} {xs : List L2.V} {u : HO} (hD : H D = some (.lst xs)) : ∀ {ts : List Addr} {r : List Deed}, Cells H ts r → Cells (upd H D u) ts r
  | _, _, .nil => .nil
  | _, _, .cons h t => .cons (by rw [upd_ne (fun e => by rw [e, hD] at h; cases h)]; exact h) (t.past hD)
theorem Cells.but {q : Addr} {xs : List L2.V} {H H' : Hp} (hq : H q = some (.lst xs)) (b : But q H H') : ∀ {ts : List Addr} {r : List Deed}, Cells H ts r → Cells H' ts r
  | _, _, .nil => .nil
  | _, _, .cons h t => .cons (b.st _ _ (fun e => by rw [e, hq] at h; cases h) h) (t.but hq b)
theorem Cells.at {H : Hp} : ∀ {ts : List Addr} {r : List Deed} {i : Nat} {t : Addr}, Cells H ts r → ts[i]? = some t → ∃ d, r[i]? = some d ∧ H t = some (.tup (d.map cv))
  | _, _, 0, t, .cons (d := d) h _, e => by
    rw [List.getElem?_cons_zero] at e
    cases e
    exact ⟨d, rfl, h⟩
  | _, _, i + 1, t, .cons _ c, e => by
    rw [List.getElem?_cons_succ] at e
    obtain ⟨d, h1, h2⟩ := c.at e
    exact ⟨d, by rw [List.getElem?_cons_succ]; exact h1, h2⟩
structure RowL (H : Hp) (p : Addr) (r : List Deed) : Prop where
  ex : ∃ ts : List Addr, H p = some (.lst (ts.map L2.V.ref)) ∧ Cells H ts r
structure RowT (H : Hp) (p : Addr) (r : List Deed) : Prop where
  ex : ∃ ts : List Addr, H p = some (.tup (ts.map L2.V.ref)) ∧ Cells H ts r
theorem RowL.same {H H' : Hp} {p : Addr} {r : List Deed} (h : RowL H p r) (s : Same H H') : RowL H' p r := by
  obtain ⟨ts, h1, h2⟩ := h
  exact ⟨ts, s _ _ h1, h2.same s⟩
theorem RowT.same {H H' : Hp} {p : Addr} {r : List Deed} (h : RowT H p r) (s : Same H H') : RowT H' p r := by
  obtain ⟨ts, h1, h2⟩ := h
  exact ⟨ts, s _ _ h1, h2.same s⟩
theorem LA.past {C : Addr} {H : Hp} {D a : Addr} {as : List Addr} {u : HO} {i : Nat} {ws : List Str} (v : LA C H a i ws) (ne : ws ≠ []) (hD : H D = some (.lst (as.map L2.V.ref))) : LA C (upd H D u) a i ws := by
  obtain ⟨d0, dx0, h1, h2⟩ := v
  refine ⟨d0, dx0, by rw [upd_ne (fun e => by rw [e, hD] at h1; cases h1)]; exact h1, ?_⟩
  have n : d0 ≠ D := fun e => by
    rw [e, hD] at h2
    injection h2 with h2
    injection h2 with h2
    cases ws with
    | nil => exact ne rfl
    | cons x r =>
      cases as with
      | nil => cases h2
      | cons b s => cases h2
  rw [upd_ne n]; exact h2
/-- the lines of a text -/
structure LAs (C : Addr) (H : Hp) (as : List Addr) (ls : List Str) : Prop where
  len : as.length = ls.length
  at_ : ∀ (k : Nat) (a : Addr) (x : Str), as[k]? = some a → ls[k]? = some x → LA C H a k (wordsOf x)
def spLinesOf (K : PySem.W.Frag) (CL CT : Addr) : Sp := fun vs H Q E => ∃ v, vs = [v] ∧
  ((∃ t, v = .str t ∧ t.length ≤ 2000 ∧ ∀ (p : Addr) (as : List Addr) (H' : Hp), H p = none → Same H H' → H' p = some (.lst (as.map L2.V.ref)) → LAs CL H' as (lines0 t) → Q (.ref p) H') ∨
   (NotS K H v ∧ Bad CT 0 0 H E))
def spReadDeed (CL CT : Addr) : Sp := fun vs H Q E => ∃ (a : Addr) (i : Nat) (ws : List Str), vs = [.ref a] ∧ LA CL H a i ws ∧ ws ≠ [] ∧ (∀ x ∈ ws, x.length ≤ 100000) ∧
  (∀ (d : Deed) (t : Addr) (H' : Hp), dueL ws = .inr d → H t = none → Same H H' → H' t = some (.tup (d.map cv)) → Q (.ref t) H') ∧ ∀ j, dueL ws = .inl j → Bad CT i j H E
def spReadStory (K : PySem.W.Frag) (CT : Addr) : Sp := fun vs H Q E => ∃ v, vs = [v] ∧
  ((∃ t, v = .str t ∧ t.length ≤ 2000 ∧ (∀ (ds : List Deed) (p : Addr) (H' : Hp), due t = .inr ds → H p = none → Same H H' → RowT H' p ds → Q (.ref p) H') ∧ ∀ (i j : Nat), due t = .inl (i, j) → Bad CT i j H E) ∨
   (NotS K H v ∧ Bad CT 0 0 H E))
theorem emptyT : Str.ofString "" = Str.empty := by decide +kernel
theorem words_ne (t : Str) : wordsOf t ≠ [] := fun e => by have := words_len t; rw [e] at this; cases this
theorem g_enum {K : PySem.W.Frag} {ta : TA} {σ : L2.St} {H : Hp} {R : It → Hp → Prop} (h : ta σ H fun vs H1 => ∃ a xs, vs = [.ref a] ∧ SqL K H1 a xs ∧ R (Ite K a) H1) : iEnum K ta σ H R := h
theorem g_rng2 {ta : TA} {σ : L2.St} {H : Hp} {R : It → Hp → Prop} (h : ta σ H fun vs H1 => ∃ i j : Int, vs = [.int i, .int j] ∧ (-(2 ^ 62) ≤ i ∧ i < 2 ^ 62 ∧ -(2 ^ 62) ≤ j ∧ j < 2 ^ 62) ∧ R (Itr i (j - i).toNat) H1) : iRng2 ta σ H R := h
theorem map_at {α β : Type} {f : α → β} {xs : List α} {i : Nat} {y : β} (h : (xs.map f)[i]? = some y) : ∃ x, xs[i]? = some x ∧ y = f x := by
  rw [List.getElem?_map] at h
  cases e : xs[i]? with
  | none => rw [e] at h; cases h
  | some x => rw [e] at h; exact ⟨x, rfl, (Option.some.inj h).symm⟩
theorem same_past {H H' : Hp} {D : Addr} {u : HO} (s : Same H H') (hD : H D = none) : Same H (upd H' D u) := fun x o z => by
  rw [upd_ne (ne_of_none z hD)]
  exact s _ _ z
section
variable {P : Program} {w : World} {K : PySem.W.Frag} {mg : Str → Option Value} {base : Heap}
theorem ok_lines_of (V : VF K mg) : FnOk P w K mg base (L2.CX P w) 3 V.fLO V.dLO ["text"] (spLinesOf K V.CL V.CT) := by
  have G_tinit := ok_tinit (P := P) (w := w) (base := base) V
  have G_linit := ok_linit (P := P) (w := w) (base := base) V
  refine V.F_lines_of.okX sc_lines_of (fun vs H Q E h => ?_) (fun cdv A outer s H vs Q E hr h => ?_)
  · obtain ⟨v, rfl, _⟩ := h
    rfl
  · obtain ⟨v, rfl, h⟩ := h
    have T := V.t
    refine ⟨_, (pss_cons (ps_if (pt_not (pt_val (pe_callB call_isi (by rfl) T.isinstance (by decide +kernel) (pa_cons (pv 0) (pa_cons (pe_bltn (v := .ty "str") (u := .type "str") (by rfl) T.str (by decide +kernel) rfl) pa_nil))))) (pss_one (ps_raise rfl (takes_of rfl rfl rfl rfl) (pmk_oex V.o_T V.i_T V.t_T G_tinit (hr.mono (by decide)) V.b_tinit .nil pass0 (by rfl) V.g_InvalidText (by exact (pa_cons pe_int (pa_cons pe_int pa_nil)))))) pss_nil)
      (pss_cons (ps_if (pt_cmpR op_eq (pv 0) pe_str (nomark _)) (pss_one (ps_ret (pe_lst pa_nil))) pss_nil)
      (pss_one (ps_ret (pe_lc (own := [("index", 1), ("row", 2)]) (g := (gTup K 2 (gCons (gName 1) (gCons (gName 2) gNil)))) rfl sc_lines_of.nd (pi_enum (by rfl) V.u.enumerate (pa_cons (pe_bm PySem.F.plainAttrs_str PySem.F.slot_str_split PySem.F.type_str_split mt_split (pv 0) (pa_cons pe_str pa_nil)) pa_nil)) (blkOk_by (own := [("index", 1), ("row", 2)]) (N := N_lines_of) (sc := defScope s_lines_of) (by decide +kernel)) (fun _ _ _ _ _ => (pg_tup rfl (pgs_cons (pg_name (i := 1) sc_lines_of.nd rfl (Or.inl rfl)) (pgs_cons (pg_name (i := 2) sc_lines_of.nd rfl (Or.inl rfl)) pgs_nil)))) (fun _ _ _ _ _ => pts_nil) (fun _ _ _ _ _ => (pe_make V.mk_L G_linit (hr.mono (by decide)) rfl V.g_Line V.b_linit .nil pass0 (pa_cons (pv 1) (pa_cons (pv 2) pa_nil))))))))), ?_⟩
    try dsimp only [cxOf]
    walk_at "hgo"
    rcases h with ⟨t, rfl, ht, k⟩ | ⟨⟨ty, ty1, ty2⟩, k⟩
    · refine g_isi (n := "str") (.base (.str t)) (b := true) (by decide +kernel) ?_
      walk_at "hgo"
      by_cases e : t = Str.ofString ""
      · refine g_true (by simp [e]) ?_
        walk_at "hgo"
        intro p hp
        have l0 : lines0 t = [] := if_pos (e.trans emptyT)
        refine k p [] _ hp (same_new hp) upd_same ?_
        rw [l0]
        exact ⟨rfl, fun _ _ _ z => by cases z⟩
      · refine g_false (by simp [e]) ?_
        have l0 : lines0 t = linesOf t := if_neg fun z => e (z.trans emptyT.symm)
        rw [l0] at k
        have lm : ∀ x ∈ linesOf t, x.length ≤ 2000 := fun x hx => Nat.le_trans (lines_mem hx) ht
        have ll : (linesOf t).length ≤ 2001 := by rw [← l0]; exact lines0_len ht
        walk_at "hgo"
        refine g_enum ?_
        walk_at "hgo"
        refine g_bm ?_
        walk_at "hgo"
        refine ⟨t, _, rfl, rfl, len1N, Nat.le_trans (show t.length + 2 ≤ 200000 by omega) (by decide), ?_⟩
        intro p hp
        rw [show Txt.split t (Str.ofString "\n") = linesOf t from rfl]
        walk_at "hgo"
        refine ⟨p, (linesOf t).map L2.V.str, rfl, SqL.of upd_same, ?_⟩
        have s1 : Same H (upd H p (.lst ((linesOf t).map L2.V.str))) := same_new hp
        have p1 : upd H p (.lst ((linesOf t).map L2.V.str)) p = some (.lst ((linesOf t).map L2.V.str)) := upd_same
        generalize upd H p (.lst ((linesOf t).map L2.V.str)) = H1 at s1 p1 ⊢
        intro D hD
        refine lc_it walk_enum (fun i H' => ∃ as : List Addr, as.length = i ∧ H' D = some (.lst (as.map L2.V.ref)) ∧ (∀ (k : Nat) (a : Addr) (x : Str), as[k]? = some a → (linesOf t)[k]? = some x → LA V.CL H' a k (wordsOf x)) ∧ Same H1 H') ⟨[], rfl, upd_same, fun _ _ _ z => (by cases z), same_new hD⟩ (fun _ _ _ z => SqL.of (z.choose_spec.2.2.2 _ _ p1)) ?_ ?_
        · rintro i y H2 H3 hi ⟨as, la, hd2, q2, s2⟩ ⟨T2, a, b, rfl, hT, rfl, ea, eb⟩
          obtain ⟨x, hx, rfl⟩ := map_at eb
          cases ea
          have lx := lm x (List.mem_of_getElem? hx)
          refine ⟨T2, _, rfl, SqT.of upd_same, rfl, ?_⟩
          refine ⟨_, _, rfl, ?_⟩
          refine g_name ?_
          refine ⟨_, _, rfl, ?_⟩
          refine g_name ?_
          refine ⟨rfl, ?_⟩
          refine ⟨rfl, ?_⟩
          have s3 : Same H2 (upd H2 T2 (.tup [.int (i : Nat), .str x])) := same_new hT
          generalize upd H2 T2 (.tup [L2.V.int (i : Nat), L2.V.str x]) = H4 at s3 ⊢
          walk_at "hgo"
          refine g_make ?_
          walk_at "hgo"
          intro o dx ho hdx ndx
          refine ⟨o, dx, i, x, rfl, upd_same, by omega, fun d H5 hd ot e1 e2 => ⟨rfl, ?_⟩⟩
          have s5 : Same H4 H5 := fun b u eb => ot b u (ne_of_none eb ho) (by rw [upd_ne (ne_of_none eb ho), upd_ne (ne_of_none eb hdx)]; exact eb)
          have s6 := same_trans s3 s5
          refine ⟨as.map L2.V.ref, s6 _ _ hd2, ?_, as ++ [o], by rw [List.length_append, la]; rfl, by rw [upd_same, List.map_append]; rfl, ?_, same_past (same_trans s2 s6) hD⟩
          · rw [List.length_map]
            exact Nat.lt_of_lt_of_le (show as.length < 3000 by rw [List.length_map] at hi; omega) (by decide)
          · intro k a' x' ha hx'
            have hD5 := s6 _ _ hd2
            have hl : (linesOf t)[i]? = some x := hx
            rcases Nat.lt_or_ge k as.length with hk | hk
            · rw [List.getElem?_append_left hk] at ha
              exact ((q2 k a' x' ha hx').same s6).past (words_ne x') hD5
            · rw [List.getElem?_append_right hk] at ha
              have k0 : k - as.length = 0 := by
                cases z : k - as.length with
                | zero => rfl
                | succ n => rw [z, List.getElem?_cons_succ] at ha; cases ha
              rw [k0, List.getElem?_cons_zero] at ha
              have ki : k = i := by omega
              rw [ki, hl] at hx'
              cases ha
              cases hx'
              rw [ki]
              exact LA.past ⟨d, dx, e1, e2⟩ (words_ne x) hD5
        · rintro H2 ⟨as, la, hd2, q2, s2⟩
          walk_at "hgo"
          rw [List.length_map] at la
          exact k D as H2 (none_back s1 hD) (same_trans s1 s2) hd2 ⟨la, q2⟩
    · refine ⟨v, .ty "str", ty, .type "str", false, rfl, .ty "str", ty1, ty2, ?_⟩
      walk_at "hgo"
      refine g_mkO ?_
      walk_at "hgo"
      exact raise_T k
end

theorem take_snoc {α : Type} {r : List α} {i : Nat} {x : α} (h : r[i]? = some x) : r.take (i + 1) = r.take i ++ [x] := by
  rw [List.take_add_one, h]
  rfl
theorem inl_map (l : List Str) : (l.map (Sum.inl : Str → Cell)).map cv = l.map L2.V.str := by
  rw [List.map_map]
  rfl
section
variable {P : Program} {w : World} {K : PySem.W.Frag} {mg : Str → Option Value} {base : Heap}
set_option maxHeartbeats 8000000 in
theorem ok_read_deed (V : VF K mg) (Z : SZ K w mg) : FnOk P w K mg base (L2.CX P w) 7 V.fRD V.dRD ["line"] (spReadDeed V.CL V.CT) := by
  have G_tinit := ok_tinit (P := P) (w := w) (base := base) V
  have G_nameat := ok_name_at (P := P) (w := w) (base := base) V
  have G_countat := ok_count_at (P := P) (w := w) (base := base) V
  have G_endat := ok_end_at (P := P) (w := w) (base := base) V
  refine V.F_read_deed.okX sc_read_deed (fun vs H Q E h => ?_) (fun cdv A outer s H vs Q E hr h => ?_)
  · obtain ⟨a, i, ws, rfl, _⟩ := h
    rfl
  · obtain ⟨a, i, ws, rfl, la, ne, sm, k1, k2⟩ := h
    obtain ⟨d, dx, h1, h2⟩ := id la
    have T := V.t
    cases ws with
    | nil => exact absurd rfl ne
    | cons x r =>
    refine ⟨_, (pss_cons (ps_set (i := 1) sc_read_deed.nd rfl (Or.inl rfl) (pe_ix ix_list (L2.pe_fld (pv 0) (by rfl)) pe_int (fun _ _ => rfl)))
      (pss_cons (ps_if (pt_cmpR (op_notIn_si Z.k_S) (pv 1) (pe_glob (v := .ref Z.dS) (by rfl) Z.g_SIZES rfl) rfl) (pss_one (ps_raise rfl (takes_of rfl rfl rfl rfl) (pmk_oex V.o_T V.i_T V.t_T G_tinit (hr.mono (by decide)) V.b_tinit .nil pass0 (by rfl) V.g_InvalidText (by exact (pa_cons (L2.pe_fld (pv 0) (by rfl)) (pa_cons pe_int pa_nil)))))) pss_nil)
      (pss_cons (ps_set (i := 2) sc_read_deed.nd rfl (Or.inl rfl) (pe_ix (ix_si Z.k_S) (pe_glob (v := .ref Z.dS) (by rfl) Z.g_SIZES rfl) (pv 1) (fun _ _ => rfl)))
      (pss_cons (ps_if (pt_cmpR op_eq (pv 1) pe_str (nomark _)) (pss_one (ps_set (i := 3) sc_read_deed.nd rfl (Or.inl rfl) (pe_lst (pa_cons (pe_meth (pv 0) V.c_L V.m_countat G_countat (hr.mono (by decide)) V.b_countat .nil (passes_call (takes_of rfl rfl rfl rfl) (fun _ _ _ _ h => h)) (pa_cons pe_int pa_nil)) pa_nil)))) (pss_one (ps_setLcX (i := 3) (own := [("at", 4)]) (g := (gName 4)) rfl rfl (takes_of rfl rfl rfl rfl) (fun _ _ _ _ h => h) rfl sc_read_deed.nd rfl rfl (sw_true rfl rfl rfl (by decide +kernel)) (pi_range2 rfl T.range (pa_cons pe_int (pa_cons (pv 2) pa_nil))) (blkOk_by (own := [("at", 4)]) (N := N_read_deed) (sc := defScope s_read_deed) (by decide +kernel)) (fun _ _ _ _ _ _ => (pg_name (i := 4) sc_read_deed.nd rfl (Or.inl rfl))) (fun _ _ _ _ _ _ => pts_nil) (fun _ _ _ _ _ _ lets => (pe_meth (pv 0) V.c_L V.m_nameat G_nameat (hr.mono (by decide)) V.b_nameat .nil (lets _ (fun _ _ _ h => h)) (pa_cons (pv 4) pa_nil))))))
      (pss_cons (ps_expr (pe_meth (pv 0) V.c_L V.m_endat G_endat (hr.mono (by decide)) V.b_endat .nil (passes_call (takes_of rfl rfl rfl rfl) (fun _ _ _ _ h => h)) (pa_cons (pv 2) pa_nil)))
      (pss_one (ps_ret (pe_tup (pa_cons (pv 1) (StX.pa_star (pv 3) pa_nil)))))))))), ?_⟩
    try dsimp only [cxOf]
    rw [show L2.start N_read_deed [.ref a] = [some (.ref a), none, none, none, none] from rfl]
    walk_at "hgo"
    refine g_at ?_
    walk_at "hgo"
    refine ⟨a, V.CL, dx, _, .ref d, rfl, h1, V.c_L, V.n_words, rfl, ?_⟩
    walk_at "hgo"
    refine g_ixL (i := ((0 : Nat) : Int)) (SqL.of h2) (atI_nat (show ((x :: r).map L2.V.str)[0]? = some (.str x) from rfl)) ?_
    walk_at "hgo"
    refine ⟨rfl, ?_⟩
    refine ⟨_, rfl, ?_⟩
    cases e : sizesL.lookup x with
    | none =>
      refine g_true rfl ?_
      refine g_mkO ?_
      walk_at "hgo"
      refine g_at ?_
      walk_at "hgo"
      refine ⟨a, V.CL, dx, _, .int (i : Nat), rfl, h1, V.c_L, V.n_index, rfl, ?_⟩
      walk_at "hgo"
      exact raise_T (k2 0 (due_none e))
    | some n =>
      obtain ⟨okx, n1, n3⟩ := size_ok e
      obtain ⟨m, rfl⟩ : ∃ m : Nat, n = (m : Int) := ⟨n.toNat, by omega⟩
      refine g_false rfl ?_
      walk_at "hgo"
      refine ⟨x, (m : Int), rfl, rfl, e, ?_⟩
      refine g_name ?_
      dsimp only [List.set]
      have nx : ∀ (p : Addr) (cs : List Cell) (y4 : Option L2.V) (H' : Hp), H' p = some (.lst (cs.map cv)) → Same H H' → m ≤ (x :: r).length → (dueL (x :: r) = if (x :: r).length = m then .inr (.inl x :: cs) else .inl m) → cs.length ≤ 100 →
          tSeq (tDrop (tMeth V.CL "end_at" (spEndAt V.CL V.CT) [] E (tVar 0) (tCons (tVar 2) tNil))) (tRet (tTup (tCons (tVar 1) (StX.tStar K (tVar 3) tNil)))) { nx := fun _ H' => Q .non H', rt := Q } [some (.ref a), some (.str x), some (.int (m : Nat)), some (.ref p), y4] H' := fun p cs y4 H' hp sm' le du cl => by
        walk_at "hgo"
        refine g_meth ?_
        walk_at "hgo"
        refine ⟨a, dx, _, rfl, sm' _ _ h1, fsL_no (by decide +kernel) (by decide +kernel), ?_⟩
        walk_at "hgo"
        refine ⟨a, i, m, x :: r, rfl, la.same sm', fun le2 => ?_, fun gt D H2 hD s2 e2 => ?_⟩
        · rw [if_pos (by omega)] at du
          walk_at "hgo"
          refine g_star ?_
          walk_at "hgo"
          refine ⟨p, _, rfl, .inr (SqL.of hp), ?_⟩
          refine g_nil ?_
          refine ⟨small_of (by rw [List.length_cons, List.length_append, List.length_map, List.length_nil]; omega), fun t ht => ?_⟩
          exact k1 _ t _ du (none_back sm' ht) (same_trans sm' (same_new ht)) (by rw [upd_same, List.append_nil]; rfl)
        · rw [if_neg (by omega)] at du
          exact k2 m du D H2 (none_back sm' hD) (same_trans sm' s2) e2
      refine g_cut (fun σ' H' => ∃ (p : Addr) (cs : List Cell) (y4 : Option L2.V), σ' = [some (.ref a), some (.str x), some (.int (m : Nat)), some (.ref p), y4] ∧ H' p = some (.lst (cs.map cv)) ∧ Same H H' ∧ m ≤ (x :: r).length ∧ (dueL (x :: r) = if (x :: r).length = m then .inr (.inl x :: cs) else .inl m) ∧ cs.length ≤ 100) ?_ ?_
      · rintro σ' H' ⟨p, cs, y4, rfl, q1, q2, q3, q4, q5⟩
        exact nx p cs y4 H' q1 q2 q3 q4 q5
      intro R hR
      walk_at "hx"
      by_cases z : x = Str.ofString "close"
      · have m2 : m = 2 := by
          rcases size_cases e with ⟨q, _⟩ | ⟨_, q⟩ | ⟨q, _⟩ | ⟨q, _⟩ | ⟨q, _⟩ | ⟨q, _⟩
          · exfalso; rw [z] at q; revert q; decide +kernel
          · omega
          · exfalso; rw [z] at q; revert q; decide +kernel
          · exfalso; rw [z] at q; revert q; decide +kernel
          · exfalso; rw [z] at q; revert q; decide +kernel
          · exfalso; rw [z] at q; revert q; decide +kernel
        refine g_true (by simp [z]) ?_
        walk_at "hx"
        refine g_meth ?_
        walk_at "hx"
        refine ⟨a, dx, _, rfl, h1, fsL_no (by decide +kernel) (by decide +kernel), ?_⟩
        walk_at "hx"
        refine ⟨a, i, x :: r, rfl, la, sm, fun y hy hn => ?_, fun hb => ?_⟩
        · walk_at "hx"
          intro p hp
          walk_at "hx"
          refine hR _ _ ⟨p, [.inr (numN y)], _, rfl, upd_same, same_new hp, ?_, ?_, ?_⟩
          · cases r with
            | nil => cases hy
            | cons b r' => rw [List.length_cons, List.length_cons]; omega
          · rw [due_close z]
            cases r with
            | nil => cases hy
            | cons b r' =>
              have eb : b = y := Option.some.inj hy
              rw [eb]
              show (if num6 y = true then _ else _) = _
              rw [hn, if_pos rfl]
              by_cases q : r' = []
              · rw [if_pos q, if_pos (by rw [q, m2]; rfl)]
              · rw [if_neg q, if_neg (fun w => q (List.length_eq_zero_iff.mp (by rw [List.length_cons, List.length_cons] at w; omega))), m2]
          · exact (show 1 ≤ 100 by decide)
        · refine k2 1 ?_
          rw [due_close z]
          cases r with
          | nil => rfl
          | cons b r' =>
            show (if num6 b = true then _ else _) = _
            rw [hb b rfl]
            rfl
      · have dn := due_names (r := r) e z
        have sr : ∀ y ∈ r, y.length ≤ 100000 := fun y hy => sm y (List.mem_cons_of_mem _ hy)
        refine g_false (by simp [z]) ?_
        walk_at "hx"
        refine g_rng2 ?_
        walk_at "hx"
        refine ⟨1, (m : Int), rfl, ⟨by decide, by decide, by omega, by omega⟩, ?_⟩
        intro D hD
        have em : ((m : Int) - 1).toNat = m - 1 := by omega
        rw [em]
        refine lc_range (lo := 1) (n := m - 1) (fun k H' => H' D = some (.lst ((r.take k).map L2.V.str)) ∧ k ≤ r.length ∧ (∀ j < k, okAt (x :: r) (j + 1) = true) ∧ Same H H') ⟨upd_same, Nat.zero_le _, fun _ h => absurd h (Nat.not_lt_zero _), same_new hD⟩ ?_ ?_
        · rintro k H2 hk ⟨q1, q2, q3, s2⟩
          rw [show (1 : Int) + (k : Int) = ((k + 1 : Nat) : Int) by omega]
          walk_at "hx"
          refine ⟨rfl, ?_⟩
          walk_at "hx"
          refine g_meth ?_
          walk_at "hx"
          refine ⟨a, dx, _, rfl, s2 _ _ h1, fsL_no (by decide +kernel) (by decide +kernel), ?_⟩
          walk_at "hx"
          refine ⟨a, i, k + 1, x :: r, rfl, la.same s2, sm, fun y H3 hy oy s3 => ?_, fun hb D2 H3 hD2 s3 e3 => ?_⟩
          · have hr : r[k]? = some y := hy
            have kl : k < r.length := by
              obtain ⟨q, _⟩ := List.getElem?_eq_some_iff.mp hr
              exact q
            refine ⟨_, s3 _ _ q1, ?_, ?_, by omega, fun j hj => ?_, same_past (same_trans s2 s3) hD⟩
            · rw [List.length_map, List.length_take]
              exact Nat.lt_of_le_of_lt (Nat.min_le_left _ _) (Nat.lt_of_lt_of_le (show k < 1000 by omega) (by decide))
            · rw [upd_same, take_snoc hr, List.map_append]
              rfl
            · rcases Nat.lt_or_ge j k with w | w
              · exact q3 j w
              · have : j = k := by omega
                subst this
                unfold okAt
                rw [hy]
                exact oy
          · exact k2 (k + 1) (by rw [dn]; exact dueN_bad (bad_at (by rw [Int.toNat_natCast]; exact hk) q3 hb)) D2 H3 (none_back s2 hD2) (same_trans s2 s3) e3
        · rintro H2 ⟨q1, q2, q3, s2⟩
          walk_at "hx"
          have nb : bad (x :: r) ((m : Int).toNat - 1) = none := bad_no (by rw [Int.toNat_natCast]; exact q3)
          refine hR _ _ ⟨D, (r.take (m - 1)).map .inl, _, rfl, by rw [inl_map]; exact q1, s2, by rw [List.length_cons]; omega, ?_, ?_⟩
          · rw [dn, dueN_ok nb, Int.toNat_natCast, List.length_cons]
            by_cases w : r.length + 1 = m
            · rw [if_pos w, if_pos w, List.take_of_length_le (by omega)]
              rfl
            · rw [if_neg w, if_neg w]
          · rw [List.length_map, List.length_take]
            omega
end

def spTale : Sp := fun vs H Q _ => ∃ (p : Addr) (ds : List Deed), vs = [.ref p] ∧ (RowL H p ds ∨ RowT H p ds) ∧ ds.length ≤ 2001 ∧ (∀ d ∈ ds, Small d) ∧ ∀ H', Same H H' → Q (.str (pageT ds)) H'
def spTaleL : Sp := fun vs H Q _ => ∃ (p : Addr) (ds : List Deed), vs = [.ref p] ∧ RowL H p ds ∧ ds.length ≤ 2001 ∧ (∀ d ∈ ds, Small d) ∧ ∀ H', Same H H' → Q (.str (pageT ds)) H'
theorem num_len {i : Int} (h0 : 0 ≤ i) (h : i < 10 ^ 6) : (Str.ofString (toString i)).length ≤ 6 := by
  have e : (10 : Int) ^ 6 = 1000000 := by decide
  rw [TL.len_tl, tl_int, if_neg (by omega)]
  exact TL.numL_len (n := i.natAbs) (k := 6) (by decide) (by omega)
theorem ct_len {c : Cell} (h : smallC c) : (ct c).length ≤ 8 := by
  cases c with
  | inl s => exact h.1
  | inr i => have := num_len h.1 h.2; show (Str.ofString (toString i)).length ≤ 8; omega
theorem len1Sp : (Str.ofString " ").length = 1 := by decide +kernel
theorem len1Nl : (Str.ofString "\n").length = 1 := by decide +kernel
theorem cells_sum {d : Deed} (h : Small d) : ((d.map ct).map (·.length)).sum ≤ 24 := by
  have b := sum_bound (fun s : Str => s.length) (n := 8) (xs := d.map ct) fun x hx => by
    obtain ⟨c, hc, rfl⟩ := List.mem_map.mp hx
    exact ct_len (h.cell c hc)
  rw [List.length_map] at b
  have := h.len
  omega
theorem line_size {d : Deed} (h : Small d) : ((d.map ct).map (·.length)).sum + (d.map ct).length * (Str.ofString " ").length ≤ 16777216 := by
  have b := cells_sum h
  have := h.len
  rw [len1Sp, List.length_map]
  omega
theorem line_len {d : Deed} (h : Small d) : (lineT d).length ≤ 26 := by
  have b := cells_sum h
  have l := joinW_len space_tl (d.map ct)
  have := h.len
  unfold lineT
  rw [List.length_map] at l
  omega
theorem page_size {ds : List Deed} (few : ds.length ≤ 2001) (h : ∀ d ∈ ds, Small d) : ((ds.map lineT).map (·.length)).sum + (ds.map lineT).length * (Str.ofString "\n").length ≤ 16777216 := by
  have b := sum_bound (fun s : Str => s.length) (n := 26) (xs := ds.map lineT) fun x hx => by
    obtain ⟨d, hd, rfl⟩ := List.mem_map.mp hx
    exact line_len (h d hd)
  rw [len1Nl, List.length_map]
  rw [List.length_map] at b
  omega
section
variable {P : Program} {w : World} {K : PySem.W.Frag} {mg : Str → Option Value} {base : Heap}
set_option maxHeartbeats 8000000

theorem ok_read_story (V : VF K mg) (Z : SZ K w mg) : FnOk P w K mg base (L2.CX P w) 8 V.fRS V.dRS ["text"] (spReadStory K V.CT) := by
  have G_lines_of := ok_lines_of (P := P) (w := w) (base := base) V
  have G_read_deed := ok_read_deed (P := P) (w := w) (base := base) V Z
  refine V.F_read_story.okX sc_read_story (fun vs H Q E h => ?_) (fun cdv A outer s H vs Q E hr h => ?_)
  · obtain ⟨v, rfl, _⟩ := h
    rfl
  · obtain ⟨v, rfl, h⟩ := h
    have T := V.t
    refine ⟨_, (pss_one (ps_ret (pe_callTy call_tuple_of (by rfl) T.tuple (by decide +kernel) (pa_cons (pe_lcX (own := [("line", 1)]) (g := (gName 1)) rfl rfl (takes_of rfl rfl rfl rfl) (fun _ _ _ _ h => h) rfl sc_read_story.nd (pi_list (pe_call G_lines_of (hr.mono (by decide)) (by rfl) V.g_lines_of V.F_lines_of.kp V.b_lines_of .nil (passes_call (takes_of rfl rfl rfl rfl) (fun _ _ _ _ h => h)) (pa_cons (pv 0) pa_nil))) (blkOk_by (own := [("line", 1)]) (N := N_read_story) (sc := defScope s_read_story) (by decide +kernel)) (fun _ _ _ _ _ _ => (pg_name (i := 1) sc_read_story.nd rfl (Or.inl rfl))) (fun _ _ _ _ _ _ => pts_nil) (fun _ _ _ _ _ _ lets => (pe_call G_read_deed (hr.mono (by decide)) (by rfl) V.g_read_deed V.F_read_deed.kp V.b_read_deed .nil (lets _ (fun _ _ _ h => h)) (pa_cons (pv 1) pa_nil)))) pa_nil)))), ?_⟩
    try dsimp only [cxOf]
    walk_at "hgo"
    rcases h with ⟨t, rfl, ht, k1, k2⟩ | ⟨hn, k⟩
    · refine ⟨.str t, rfl, .inl ⟨t, rfl, ht, fun p as H1 hp s1 e1 las => ?_⟩⟩
      refine g_atL (SqL.of e1) ?_
      have ll := lines0_len ht
      have lm : ∀ x ∈ lines0 t, x.length ≤ 2000 := fun x hx => Nat.le_trans (lines0_mem hx) ht
      intro D hD
      refine lc_it walk_list (fun i H' => ∃ (ts : List Addr) (ds : List Deed), H' D = some (.lst (ts.map L2.V.ref)) ∧ Cells H' ts ds ∧ ds.length = i ∧ scanD (lines0 t) 0 [] = scanD ((lines0 t).drop i) i ds ∧ Same H1 H') ⟨[], [], upd_same, .nil, rfl, rfl, same_new hD⟩ (fun _ _ _ z => SqL.of (z.choose_spec.choose_spec.2.2.2.2 _ _ e1)) ?_ ?_
      · rintro i x H2 H3 hi ⟨ts, ds, q1, q2, q3, q4, s2⟩ ⟨rfl, hx⟩
        obtain ⟨a, ha, rfl⟩ := map_at hx
        rw [List.length_map] at hi
        have hy : (lines0 t)[i]? = some ((lines0 t)[i]'(by rw [← las.len]; exact hi)) := List.getElem?_eq_getElem _
        generalize (lines0 t)[i]'(by rw [← las.len]; exact hi) = y at hy
        have la := (las.at_ i a y ha hy).same s2
        have ly := lm y (List.mem_of_getElem? hy)
        walk_at "hgo"
        refine ⟨rfl, ?_⟩
        walk_at "hgo"
        refine ⟨a, i, wordsOf y, rfl, la, words_ne y, fun x hx => by have := words_mem hx; omega, fun d u H4 du hu s4 e4 => ?_, fun j du => ?_⟩
        · refine ⟨_, s4 _ _ q1, ?_, ts ++ [u], ds ++ [d], ?_, Cells.past (s4 _ _ q1) ((q2.same s4).snoc e4), by rw [List.length_append, q3]; rfl, scan_next hy q4 du, same_past (same_trans s2 s4) hD⟩
          · rw [List.length_map, q2.len, q3]
            exact Nat.lt_of_lt_of_le (show i < 3000 by rw [las.len] at hi; omega) (by decide)
          · rw [upd_same, List.map_append]
            rfl
        · exact fun D2 H4 hD2 s4 e4 => k2 i j (scan_stop hy q4 du) D2 H4 (none_back (same_trans s1 s2) hD2) (same_trans (same_trans s1 s2) s4) e4
      · rintro H2 ⟨ts, ds, q1, q2, q3, q4, s2⟩
        rw [List.length_map, las.len] at q3 q4
        walk_at "hgo"
        refine ⟨D, _, rfl, .inl ⟨SqL.of q1, fun l hl => ?_⟩⟩
        have s3 : Same H2 (upd H2 l (.tup (ts.map L2.V.ref))) := same_new hl
        exact k1 ds l _ (scan_done q4) (none_back (same_trans s1 s2) hl) (same_trans (same_trans s1 s2) s3) ⟨ts, upd_same, q2.same s3⟩
    · exact ⟨v, rfl, .inr ⟨hn, k⟩⟩
theorem ok_story_text (V : VF K mg) : FnOk P w K mg base CX0 1 V.fST V.dST ["deeds"] spTale := by
  refine V.F_story_text.ok sc_story_text (fun vs H Q E h => ?_) (fun cdv A outer s H vs Q E hr h => ?_)
  · obtain ⟨p, ds, rfl, _⟩ := h
    rfl
  · obtain ⟨p, ds, rfl, row, few, sm, k⟩ := h
    have T := V.t
    refine ⟨_, (pss_one (ps_ret (pe_joinJ pe_str (pe_lc (own := [("deed", 2)]) (g := (gName 2)) rfl sc_story_text.nd (pi_or (pi_list (pv 0)) (pi_tup (pv 0))) (blkOk_by (own := [("deed", 2)]) (N := N_story_text) (sc := defScope s_story_text) (by decide +kernel)) (fun _ _ _ _ _ => (pg_name (i := 2) sc_story_text.nd rfl (Or.inl rfl))) (fun _ _ _ _ _ => pts_nil) (fun _ _ _ _ _ => (pe_joinK (K := K) rfl pe_str (pe_lc (own := [("part", 1)]) (g := (gName 1)) rfl sc_story_text.nd (pi_tupK (K := K) rfl (pv 2)) (blk_own (own := [("part", 1)]) (N := N_story_text) (by decide +kernel)) (fun _ _ _ _ _ => (pg_name (i := 1) sc_story_text.nd rfl (Or.inl rfl))) (fun _ _ _ _ _ => pts_nil) (fun _ _ _ _ _ => (pe_callTy (CallR.or SkE.call_str_str call_strI) (by rfl) T.str (by decide +kernel) (pa_cons (pv 1) pa_nil)))))))))), ?_⟩
    try dsimp only [cxOf]
    walk_at "hgo"
    rcases row with ⟨ts, e, cs⟩ | ⟨ts, e, cs⟩
    · refine g_or1 ?_
      walk_at "hgo"
      refine g_atL (SqL.of e) ?_
      intro D hD
      refine lc_it walk_list (fun i H' => H' D = some (.lst (((ds.take i).map lineT).map L2.V.str)) ∧ Same H H') ⟨upd_same, same_new hD⟩ (fun _ _ _ z => SqL.of (z.2 _ _ e)) ?_ ?_
      · rintro i x H2 H3 hi ⟨q1, s2⟩ ⟨rfl, hx⟩
        obtain ⟨a, ha, rfl⟩ := map_at hx
        obtain ⟨d, hd, ea⟩ := cs.at ha
        have sd := sm d (List.mem_of_getElem? hd)
        have ld := sd.len
        rw [List.length_map, cs.len] at hi
        walk_at "hgo"
        refine ⟨rfl, ?_⟩
        walk_at "hgo"
        refine g_atT (SqT.of (s2 _ _ ea)) ?_
        intro D2 hD2
        refine lc_it walk_tup (fun j H' => H' D2 = some (.lst (((d.take j).map ct).map L2.V.str)) ∧ Same H3 H') ⟨upd_same, same_new hD2⟩ (fun _ _ _ z => SqT.of (z.2 _ _ (s2 _ _ ea))) ?_ ?_
        · rintro j y H4 H5 hj ⟨r1, s4⟩ ⟨rfl, hy⟩
          obtain ⟨c, hc, rfl⟩ := map_at hy
          walk_at "hgo"
          refine ⟨rfl, ?_⟩
          walk_at "hgo"
          rw [List.length_map] at hj
          have bd : (((d.take j).map ct).map L2.V.str).length < sizeLine := by
            rw [List.length_map, List.length_map, List.length_take]
            exact Nat.lt_of_le_of_lt (Nat.min_le_left _ _) (Nat.lt_of_lt_of_le (show j < 1000 by omega) (by decide))
          cases c with
          | inl z =>
            refine .inl ⟨z, rfl, ?_⟩
            refine ⟨_, r1, bd, ?_, same_past s4 hD2⟩
            rw [upd_same, take_snoc hc, List.map_append, List.map_append]
            rfl
          | inr n =>
            have sn := sd.cell _ (List.mem_of_getElem? hc)
            have n6 : n < 1000000 := sn.2
            have n0 : 0 ≤ n := sn.1
            refine .inr ?_
            refine ⟨n, rfl, ?_, ?_⟩
            · exact PySem.Flt.log2_lt_of (by decide) (Nat.lt_of_lt_of_le (show n.natAbs < 1048576 by omega) (by decide +kernel))
            refine ⟨_, r1, bd, ?_, same_past s4 hD2⟩
            rw [upd_same, take_snoc hc, List.map_append, List.map_append]
            rfl
        · rintro H4 ⟨r1, s4⟩
          rw [List.length_map, List.take_length] at r1
          walk_at "hgo"
          refine g_join (SqL.of r1) (line_size sd) ?_
          walk_at "hgo"
          refine ⟨_, s4 _ _ q1, ?_, ?_, same_past (same_trans s2 s4) hD⟩
          · rw [List.length_map, List.length_map, List.length_take]
            exact Nat.lt_of_le_of_lt (Nat.min_le_left _ _) (Nat.lt_of_lt_of_le (show i < 3000 by omega) (by decide))
          · rw [upd_same, take_snoc hd, List.map_append, List.map_append]
            rfl
      · rintro H2 ⟨q1, s2⟩
        rw [List.length_map, cs.len, List.take_length] at q1
        walk_at "hgo"
        refine g_join (SqL.of q1) (page_size few sm) ?_
        walk_at "hgo"
        exact k _ s2
    · refine g_or2 ?_
      walk_at "hgo"
      refine g_atT (SqT.of e) ?_
      intro D hD
      refine lc_it walk_tup (fun i H' => H' D = some (.lst (((ds.take i).map lineT).map L2.V.str)) ∧ Same H H') ⟨upd_same, same_new hD⟩ (fun _ _ _ z => SqT.of (z.2 _ _ e)) ?_ ?_
      · rintro i x H2 H3 hi ⟨q1, s2⟩ ⟨rfl, hx⟩
        obtain ⟨a, ha, rfl⟩ := map_at hx
        obtain ⟨d, hd, ea⟩ := cs.at ha
        have sd := sm d (List.mem_of_getElem? hd)
        have ld := sd.len
        rw [List.length_map, cs.len] at hi
        walk_at "hgo"
        refine ⟨rfl, ?_⟩
        walk_at "hgo"
        refine g_atT (SqT.of (s2 _ _ ea)) ?_
        intro D2 hD2
        refine lc_it walk_tup (fun j H' => H' D2 = some (.lst (((d.take j).map ct).map L2.V.str)) ∧ Same H3 H') ⟨upd_same, same_new hD2⟩ (fun _ _ _ z => SqT.of (z.2 _ _ (s2 _ _ ea))) ?_ ?_
        · rintro j y H4 H5 hj ⟨r1, s4⟩ ⟨rfl, hy⟩
          obtain ⟨c, hc, rfl⟩ := map_at hy
          walk_at "hgo"
          refine ⟨rfl, ?_⟩
          walk_at "hgo"
          rw [List.length_map] at hj
          have bd : (((d.take j).map ct).map L2.V.str).length < sizeLine := by
            rw [List.length_map, List.length_map, List.length_take]
            exact Nat.lt_of_le_of_lt (Nat.min_le_left _ _) (Nat.lt_of_lt_of_le (show j < 1000 by omega) (by decide))
          cases c with
          | inl z =>
            refine .inl ⟨z, rfl, ?_⟩
            refine ⟨_, r1, bd, ?_, same_past s4 hD2⟩
            rw [upd_same, take_snoc hc, List.map_append, List.map_append]
            rfl
          | inr n =>
            have sn := sd.cell _ (List.mem_of_getElem? hc)
            have n6 : n < 1000000 := sn.2
            have n0 : 0 ≤ n := sn.1
            refine .inr ?_
            refine ⟨n, rfl, ?_, ?_⟩
            · exact PySem.Flt.log2_lt_of (by decide) (Nat.lt_of_lt_of_le (show n.natAbs < 1048576 by omega) (by decide +kernel))
            refine ⟨_, r1, bd, ?_, same_past s4 hD2⟩
            rw [upd_same, take_snoc hc, List.map_append, List.map_append]
            rfl
        · rintro H4 ⟨r1, s4⟩
          rw [List.length_map, List.take_length] at r1
          walk_at "hgo"
          refine g_join (SqL.of r1) (line_size sd) ?_
          walk_at "hgo"
          refine ⟨_, s4 _ _ q1, ?_, ?_, same_past (same_trans s2 s4) hD⟩
          · rw [List.length_map, List.length_map, List.length_take]
            exact Nat.lt_of_le_of_lt (Nat.min_le_left _ _) (Nat.lt_of_lt_of_le (show i < 3000 by omega) (by decide))
          · rw [upd_same, take_snoc hd, List.map_append, List.map_append]
            rfl
      · rintro H2 ⟨q1, s2⟩
        rw [List.length_map, cs.len, List.take_length] at q1
        walk_at "hgo"
        refine g_join (SqL.of q1) (page_size few sm) ?_
        walk_at "hgo"
        exact k _ s2
theorem ok_law_text (V : VF K mg) : FnOk P w K mg base CX0 1 V.fLX V.dLX ["_law_some"] spTaleL := by
  refine V.F_law_text.ok sc_law_text (fun vs H Q E h => ?_) (fun cdv A outer s H vs Q E hr h => ?_)
  · obtain ⟨p, ds, rfl, _⟩ := h
    rfl
  · obtain ⟨p, ds, rfl, row, few, sm, k⟩ := h
    have T := V.t
    refine ⟨_, (pss_one (ps_ret (pe_joinJ pe_str (pe_lc (own := [("_law_deed_here", 2)]) (g := (gName 2)) rfl sc_law_text.nd (pi_list (pv 0)) (blkOk_by (own := [("_law_deed_here", 2)]) (N := N_law_text) (sc := defScope s_law_text) (by decide +kernel)) (fun _ _ _ _ _ => (pg_name (i := 2) sc_law_text.nd rfl (Or.inl rfl))) (fun _ _ _ _ _ => pts_nil) (fun _ _ _ _ _ => (pe_joinK (K := K) rfl pe_str (pe_lc (own := [("_law_part", 1)]) (g := (gName 1)) rfl sc_law_text.nd (pi_tupK (K := K) rfl (pv 2)) (blk_own (own := [("_law_part", 1)]) (N := N_law_text) (by decide +kernel)) (fun _ _ _ _ _ => (pg_name (i := 1) sc_law_text.nd rfl (Or.inl rfl))) (fun _ _ _ _ _ => pts_nil) (fun _ _ _ _ _ => (pe_callTy (CallR.or SkE.call_str_str call_strI) (by rfl) T.str (by decide +kernel) (pa_cons (pv 1) pa_nil)))))))))), ?_⟩
    try dsimp only [cxOf]
    walk_at "hgo"
    obtain ⟨ts, e, cs⟩ := row
    · walk_at "hgo"
      refine g_atL (SqL.of e) ?_
      intro D hD
      refine lc_it walk_list (fun i H' => H' D = some (.lst (((ds.take i).map lineT).map L2.V.str)) ∧ Same H H') ⟨upd_same, same_new hD⟩ (fun _ _ _ z => SqL.of (z.2 _ _ e)) ?_ ?_
      · rintro i x H2 H3 hi ⟨q1, s2⟩ ⟨rfl, hx⟩
        obtain ⟨a, ha, rfl⟩ := map_at hx
        obtain ⟨d, hd, ea⟩ := cs.at ha
        have sd := sm d (List.mem_of_getElem? hd)
        have ld := sd.len
        rw [List.length_map, cs.len] at hi
        walk_at "hgo"
        refine ⟨rfl, ?_⟩
        walk_at "hgo"
        refine g_atT (SqT.of (s2 _ _ ea)) ?_
        intro D2 hD2
        refine lc_it walk_tup (fun j H' => H' D2 = some (.lst (((d.take j).map ct).map L2.V.str)) ∧ Same H3 H') ⟨upd_same, same_new hD2⟩ (fun _ _ _ z => SqT.of (z.2 _ _ (s2 _ _ ea))) ?_ ?_
        · rintro j y H4 H5 hj ⟨r1, s4⟩ ⟨rfl, hy⟩
          obtain ⟨c, hc, rfl⟩ := map_at hy
          walk_at "hgo"
          refine ⟨rfl, ?_⟩
          walk_at "hgo"
          rw [List.length_map] at hj
          have bd : (((d.take j).map ct).map L2.V.str).length < sizeLine := by
            rw [List.length_map, List.length_map, List.length_take]
            exact Nat.lt_of_le_of_lt (Nat.min_le_left _ _) (Nat.lt_of_lt_of_le (show j < 1000 by omega) (by decide))
          cases c with
          | inl z =>
            refine .inl ⟨z, rfl, ?_⟩
            refine ⟨_, r1, bd, ?_, same_past s4 hD2⟩
            rw [upd_same, take_snoc hc, List.map_append, List.map_append]
            rfl
          | inr n =>
            have sn := sd.cell _ (List.mem_of_getElem? hc)
            have n6 : n < 1000000 := sn.2
            have n0 : 0 ≤ n := sn.1
            refine .inr ?_
            refine ⟨n, rfl, ?_, ?_⟩
            · exact PySem.Flt.log2_lt_of (by decide) (Nat.lt_of_lt_of_le (show n.natAbs < 1048576 by omega) (by decide +kernel))
            refine ⟨_, r1, bd, ?_, same_past s4 hD2⟩
            rw [upd_same, take_snoc hc, List.map_append, List.map_append]
            rfl
        · rintro H4 ⟨r1, s4⟩
          rw [List.length_map, List.take_length] at r1
          walk_at "hgo"
          refine g_join (SqL.of r1) (line_size sd) ?_
          walk_at "hgo"
          refine ⟨_, s4 _ _ q1, ?_, ?_, same_past (same_trans s2 s4) hD⟩
          · rw [List.length_map, List.length_map, List.length_take]
            exact Nat.lt_of_le_of_lt (Nat.min_le_left _ _) (Nat.lt_of_lt_of_le (show i < 3000 by omega) (by decide))
          · rw [upd_same, take_snoc hd, List.map_append, List.map_append]
            rfl
      · rintro H2 ⟨q1, s2⟩
        rw [List.length_map, cs.len, List.take_length] at q1
        walk_at "hgo"
        refine g_join (SqL.of q1) (page_size few sm) ?_
        walk_at "hgo"
        exact k _ s2
end

/-! what is written is read back -/
def wS (s : String) : Cell := .inl (Str.ofString s)
inductive Rt : Deed → Prop
  | two {w a b : Str} : w = Str.ofString "open" ∨ w = Str.ofString "book" → okS a = true → okS b = true → Rt [.inl w, .inl a, .inl b]
  | num {n : Int} : 0 ≤ n → n < 10 ^ 6 → Rt [.inl closeS, .inr n]
  | one {w a : Str} : w = Str.ofString "move" ∨ w = Str.ofString "restart" → okS a = true → Rt [.inl w, .inl a]
  | non : Rt [.inl (Str.ofString "settle")]
theorem num_digits {i : Int} (h : 0 ≤ i) : TL.tl (Str.ofString (toString i)) = TL.numL i.natAbs := by rw [tl_int, if_neg (by omega)]
theorem num6_back {i : Int} (h0 : 0 ≤ i) (h : i < 10 ^ 6) : num6 (Str.ofString (toString i)) = true ∧ numN (Str.ofString (toString i)) = i := by
  by_cases z : i = 0
  · subst z
    exact ⟨by decide +kernel, by decide +kernel⟩
  · have e6 : (10 : Int) ^ 6 = 1000000 := by decide
    have nb : i.natAbs < 10 ^ 60 := Nat.lt_of_lt_of_le (show i.natAbs < 1000000 by omega) (by decide +kernel)
    obtain ⟨b1, b2⟩ := num_back z nb
    have dg := TL.numL_digits i.natAbs
    have hd : (TL.tl (Str.ofString (toString i))).head? ≠ some 45 := fun e => by
      rw [num_digits h0] at e
      generalize TL.numL i.natAbs = l at e dg
      cases l with
      | nil => cases e
      | cons c r =>
        rw [List.head?_cons] at e
        have := dg.head
        have := Option.some.inj e
        omega
    have ln : (TL.tl (Str.ofString (toString i))).length ≤ 6 := by
      rw [← TL.len_tl]
      exact num_len h0 h
    have n0 : Str.ofString (toString i) ≠ Str.ofString "0" := fun e => by rw [e, numB_zero] at b1; cases b1
    refine ⟨?_, ?_⟩
    · unfold num6
      rw [b1, decide_eq_true ln, decide_eq_true hd]
      simp
    · unfold numN
      rw [if_neg n0, b2]
theorem okAt_cons {w a : Str} {r : List Str} : okAt (w :: a :: r) 1 = okS a := rfl
theorem due_two {w a b : Str} (h : w = Str.ofString "open" ∨ w = Str.ofString "book") (ha : okS a = true) (hb : okS b = true) : dueL [w, a, b] = .inr [.inl w, .inl a, .inl b] := by
  have e : sizesL.lookup w = some 3 := by rcases h with rfl | rfl <;> decide +kernel
  have z : w ≠ closeS := by rcases h with rfl | rfl <;> decide +kernel
  have nb : bad [w, a, b] ((3 : Int).toNat - 1) = none := bad_no fun i hi => by
    have : i = 0 ∨ i = 1 := by
      have : (3 : Int).toNat - 1 = 2 := by decide
      omega
    rcases this with rfl | rfl
    · exact ha
    · exact hb
  rw [due_names e z, dueN_ok nb]
  rfl
theorem due_one {w a : Str} (h : w = Str.ofString "move" ∨ w = Str.ofString "restart") (ha : okS a = true) : dueL [w, a] = .inr [.inl w, .inl a] := by
  have e : sizesL.lookup w = some 2 := by rcases h with rfl | rfl <;> decide +kernel
  have z : w ≠ closeS := by rcases h with rfl | rfl <;> decide +kernel
  have nb : bad [w, a] ((2 : Int).toNat - 1) = none := bad_no fun i hi => by
    have : i = 0 := by
      have : (2 : Int).toNat - 1 = 1 := by decide
      omega
    subst this
    exact ha
  rw [due_names e z, dueN_ok nb]
  rfl
theorem Rt.back {d : Deed} (h : Rt d) : dueL (d.map ct) = .inr d := by
  cases h with
  | two h a b => exact due_two h a b
  | one h a => exact due_one h a
  | non => decide +kernel
  | @num n h0 h1 =>
    obtain ⟨q1, q2⟩ := num6_back h0 h1
    show dueL [closeS, Str.ofString (toString n)] = _
    rw [due_close rfl]
    show (if num6 (Str.ofString (toString n)) = true then (if ([] : List Str) = [] then Sum.inr [Sum.inl closeS, Sum.inr (numN (Str.ofString (toString n)))] else Sum.inl 2) else Sum.inl 1) = _
    rw [if_pos q1, if_pos rfl, q2]
theorem Rt.small {d : Deed} (h : Rt d) : Small d := dueL_small h.back
/-- signs of a cell's text -/
def signB (s : Str) : Bool := (TL.tl s).all fun c => decide (c ≠ 32) && (decide (c ≠ 10) && decide (c < 128))
theorem sign_ok {s : Str} (h : okS s = true) : signB s = true := List.all_eq_true.mpr fun c hc => by
  have := okS_mem h c hc
  simp; omega
theorem Rt.sign {d : Deed} (h : Rt d) : ∀ s ∈ d.map ct, signB s = true := by
  intro s hs
  obtain ⟨c, hc, rfl⟩ := List.mem_map.mp hs
  cases h with
  | two h a b =>
    simp only [List.mem_cons, List.not_mem_nil, or_false] at hc
    rcases hc with rfl | rfl | rfl
    · rcases h with rfl | rfl <;> decide +kernel
    · exact sign_ok a
    · exact sign_ok b
  | one h a =>
    simp only [List.mem_cons, List.not_mem_nil, or_false] at hc
    rcases hc with rfl | rfl
    · rcases h with rfl | rfl <;> decide +kernel
    · exact sign_ok a
  | non =>
    simp only [List.mem_cons, List.not_mem_nil, or_false] at hc
    rw [hc]
    decide +kernel
  | @num n h0 h1 =>
    simp only [List.mem_cons, List.not_mem_nil, or_false] at hc
    rcases hc with rfl | rfl
    · decide +kernel
    · show (TL.tl (Str.ofString (toString n))).all _ = true
      rw [num_digits h0, List.all_eq_true]
      intro c hc
      have := TL.numL_digits n.natAbs c hc
      simp; omega
theorem Rt.ne {d : Deed} (h : Rt d) : d.map ct ≠ [] := by cases h <;> exact List.cons_ne_nil _ _
theorem line_words {d : Deed} (h : Rt d) : wordsOf (lineT d) = d.map ct := TL.split_join space_tl (kind1 space_tl (by decide)) h.ne fun p hp m => by
  have z := List.all_eq_true.mp (h.sign p hp) 32 m
  simp at z
theorem line_sign {d : Deed} (h : Rt d) : ∀ c ∈ TL.tl (lineT d), c ≠ 10 ∧ c < 128 := fun c hc => by
  unfold lineT at hc
  rw [joinW_tl, space_tl] at hc
  rcases joinL_mem hc with z | ⟨p, hp, z⟩
  · omega
  · obtain ⟨s, hs, rfl⟩ := List.mem_map.mp hp
    have q := List.all_eq_true.mp (h.sign s hs) c z
    simp at q
    omega
theorem page_lines {ds : List Deed} (ne : ds ≠ []) (h : ∀ d ∈ ds, Rt d) : linesOf (pageT ds) = ds.map lineT := TL.split_join line_tl (kind1 line_tl (by decide)) (fun e => ne (List.map_eq_nil_iff.mp e)) fun p hp m => by
  obtain ⟨d, hd, rfl⟩ := List.mem_map.mp hp
  exact (line_sign (h d hd) 10 m).1 rfl
theorem lines_ne (t : Str) : linesOf t ≠ [] := fun e => by have := lines_len t; rw [e] at this; cases this
theorem page_empty {ds : List Deed} (h : ∀ d ∈ ds, Rt d) : pageT ds = Str.empty ↔ ds = [] := by
  constructor
  · intro e
    cases ds with
    | nil => rfl
    | cons d r =>
      exfalso
      have l := page_lines (ds := d :: r) (List.cons_ne_nil _ _) h
      rw [e] at l
      have l1 : linesOf Str.empty = [Str.empty] := by decide +kernel
      rw [l1, List.map_cons] at l
      have q := (List.cons.inj l).1
      have hd := h d List.mem_cons_self
      have lw := line_words hd
      rw [← q] at lw
      have l2 : wordsOf Str.empty = [Str.empty] := by decide +kernel
      rw [l2] at lw
      have b := hd.back
      rw [← lw] at b
      revert b
      have : dueL [Str.empty] = .inl 0 := by decide +kernel
      rw [this]
      intro b
      cases b
  · rintro rfl
    decide +kernel
theorem lines_back {ds : List Deed} (h : ∀ d ∈ ds, Rt d) : lines0 (pageT ds) = ds.map lineT := by
  unfold lines0
  by_cases e : ds = []
  · rw [if_pos ((page_empty h).mpr e), e]
    rfl
  · rw [if_neg fun z => e ((page_empty h).mp z), page_lines e h]
theorem scan_back : ∀ (ds l : List Deed) (i : Nat), (∀ d ∈ ds, Rt d) → scanD (ds.map lineT) i l = .inr (l ++ ds)
  | [], l, i, _ => by rw [List.append_nil]; rfl
  | d :: r, l, i, h => by
    have hd := h d List.mem_cons_self
    rw [List.map_cons]
    show (match dueL (wordsOf (lineT d)) with
      | .inl j => Sum.inl (i, j)
      | .inr d => scanD (r.map lineT) (i + 1) (l ++ [d])) = _
    rw [line_words hd, hd.back]
    show scanD (r.map lineT) (i + 1) (l ++ [d]) = _
    rw [scan_back r (l ++ [d]) (i + 1) fun x hx => h x (List.mem_cons_of_mem _ hx), List.append_assoc]
    rfl
theorem due_back {ds : List Deed} (h : ∀ d ∈ ds, Rt d) : due (pageT ds) = .inr ds := by
  unfold due
  rw [lines_back h, scan_back ds [] 0 h]
  rfl
/-! deeds as data -/
def pdD (ds : List Deed) : List PyData := ds.map fun d => .tuple (d.map cd)
def pd (ds : List Deed) : PyData := .list (pdD ds)
theorem cells_dp {K : PySem.W.Frag} {H : Hp} : ∀ d : Deed, DpAll K H (d.map cv) (d.map cd)
  | [] => .nil
  | .inl s :: r => .cons (.str s) (cells_dp r)
  | .inr i :: r => .cons (.int i) (cells_dp r)
theorem rows_dp {K : PySem.W.Frag} {H : Hp} : ∀ {ts : List Addr} {r : List Deed}, Cells H ts r → DpAll K H (ts.map L2.V.ref) (pdD r)
  | _, _, .nil => .nil
  | _, _, .cons h t => .cons (.tup (SqT.of h) (cells_dp _)) (rows_dp t)
theorem RowL.dp {K : PySem.W.Frag} {H : Hp} {p : Addr} {r : List Deed} (h : RowL H p r) : Dp K H (.ref p) (pd r) := by
  obtain ⟨ts, h1, h2⟩ := h
  exact .lst (SqL.of h1) (rows_dp h2)
theorem RowT.dp {K : PySem.W.Frag} {H : Hp} {p : Addr} {r : List Deed} (h : RowT H p r) : Dp K H (.ref p) (.tuple (pdD r)) := by
  obtain ⟨ts, h1, h2⟩ := h
  exact .tup (SqT.of h1) (rows_dp h2)
theorem small_log {i : Int} (h0 : 0 ≤ i) (h : i < 10 ^ 6) : i.natAbs.log2 < 20 := by
  have e6 : (10 : Int) ^ 6 = 1000000 := by decide
  exact PySem.Flt.log2_lt_of (by decide) (show i.natAbs < 1048576 by omega)
theorem cell_all : ∀ {d : Deed}, (∀ c ∈ d, smallC c) → PyData.showableAll (d.map cd) = true ∧ PyData.hasDictAll (d.map cd) = false ∧ PyData.depthAll (d.map cd) = 0 ∧ PyData.canLayAll0 (d.map cd) = true ∧ PyData.intsShortAll 21 (d.map cd) = true ∧ PyData.weightAll (d.map cd) ≤ d.length * 40
  | [], _ => ⟨rfl, rfl, rfl, rfl, rfl, Nat.zero_le _⟩
  | c :: r, h => by
    obtain ⟨a1, a2, a3, a4, a5, a6⟩ := cell_all (d := r) fun x hx => h x (List.mem_cons_of_mem _ hx)
    have hc := h c List.mem_cons_self
    cases c with
    | inl s =>
      have sl := hc.1
      have so := fit_strOk hc.2
      have sz : s.cps.size = s.length := rfl
      rw [List.map_cons]
      show PyData.showableAll (PyData.str s :: r.map cd) = true ∧ PyData.hasDictAll (PyData.str s :: r.map cd) = false ∧ PyData.depthAll (PyData.str s :: r.map cd) = 0 ∧ PyData.canLayAll0 (PyData.str s :: r.map cd) = true ∧ PyData.intsShortAll 21 (PyData.str s :: r.map cd) = true ∧ PyData.weightAll (PyData.str s :: r.map cd) ≤ (r.length + 1) * 40
      refine ⟨?_, ?_, ?_, ?_, ?_, ?_⟩
      · simp only [PyData.showableAll, PyData.showable, a1, Bool.and_true, Bool.true_and]
      · simp only [PyData.hasDictAll, PyData.hasDict, a2, Bool.or_false]
      · simp only [PyData.depthAll, PyData.depth, a3]; omega
      · simp only [PyData.canLayAll0, PyData.canLay0, a4, so, Bool.and_true]
      · simp only [PyData.intsShortAll, PyData.intsShort, a5, Bool.and_true]
      · simp only [PyData.weightAll, PyData.weight]
        rw [sz]
        omega
    | inr i =>
      have lg := small_log hc.1 hc.2
      have tl : (Str.ofString (toString i)).length ≤ 21 := by
        rw [PySem.ofString_length]
        exact int_text_length_le (by decide) lg
      show PyData.showableAll (PyData.int i :: r.map cd) = true ∧ PyData.hasDictAll (PyData.int i :: r.map cd) = false ∧ PyData.depthAll (PyData.int i :: r.map cd) = 0 ∧ PyData.canLayAll0 (PyData.int i :: r.map cd) = true ∧ PyData.intsShortAll 21 (PyData.int i :: r.map cd) = true ∧ PyData.weightAll (PyData.int i :: r.map cd) ≤ (r.length + 1) * 40
      refine ⟨?_, ?_, ?_, ?_, ?_, ?_⟩
      · simp only [PyData.showableAll, PyData.showable, a1, Bool.and_true, Bool.true_and]
        exact decide_eq_true (by omega)
      · simp only [PyData.hasDictAll, PyData.hasDict, a2, Bool.or_false]
      · simp only [PyData.depthAll, PyData.depth, a3]; omega
      · simp only [PyData.canLayAll0, PyData.canLay0, a4, Bool.and_true]
      · simp only [PyData.intsShortAll, PyData.intsShort, a5, Bool.and_true]
        exact decide_eq_true tl
      · simp only [PyData.weightAll, PyData.weight]
        have w1 : (if (i == 0) = true then 0 else i.natAbs.log2 + 1) ≤ 20 := by split <;> omega
        omega
theorem row_all : ∀ {ds : List Deed}, (∀ d ∈ ds, Small d) → PyData.showableAll (pdD ds) = true ∧ PyData.hasDictAll (pdD ds) = false ∧ PyData.depthAll (pdD ds) ≤ 1 ∧ PyData.canLayAll0 (pdD ds) = true ∧ PyData.intsShortAll 21 (pdD ds) = true ∧ PyData.weightAll (pdD ds) ≤ ds.length * 130
  | [], _ => ⟨rfl, rfl, Nat.zero_le _, rfl, rfl, Nat.zero_le _⟩
  | d :: r, h => by
    obtain ⟨a1, a2, a3, a4, a5, a6⟩ := row_all (ds := r) fun x hx => h x (List.mem_cons_of_mem _ hx)
    have sd := h d List.mem_cons_self
    obtain ⟨b1, b2, b3, b4, b5, b6⟩ := cell_all sd.cell
    have ld := sd.len
    show PyData.showableAll (PyData.tuple (d.map cd) :: pdD r) = true ∧ PyData.hasDictAll (PyData.tuple (d.map cd) :: pdD r) = false ∧ PyData.depthAll (PyData.tuple (d.map cd) :: pdD r) ≤ 1 ∧ PyData.canLayAll0 (PyData.tuple (d.map cd) :: pdD r) = true ∧ PyData.intsShortAll 21 (PyData.tuple (d.map cd) :: pdD r) = true ∧ PyData.weightAll (PyData.tuple (d.map cd) :: pdD r) ≤ (r.length + 1) * 130
    refine ⟨?_, ?_, ?_, ?_, ?_, ?_⟩
    · simp only [PyData.showableAll, PyData.showable, a1, b1, Bool.and_true]
    · simp only [PyData.hasDictAll, PyData.hasDict, a2, b2, Bool.or_false]
    · simp only [PyData.depthAll, PyData.depth, b3]; omega
    · simp only [PyData.canLayAll0, PyData.canLay0, a4, b4, Bool.and_true]
    · simp only [PyData.intsShortAll, PyData.intsShort, a5, b5, Bool.and_true]
    · simp only [PyData.weightAll, PyData.weight]
      omega
theorem pd_show {ds : List Deed} (h : ∀ d ∈ ds, Small d) (few : ds.length ≤ 2001) : (pd ds).showable = true ∧ (pd ds).hasDict = false ∧ (pd ds).depth ≤ 40 ∧ (pd ds).shown.length ≤ sizeLine := by
  obtain ⟨a, b, c, d, e, f⟩ := row_all h
  show (PyData.list (pdD ds)).showable = true ∧ (PyData.list (pdD ds)).hasDict = false ∧ (PyData.list (pdD ds)).depth ≤ 40 ∧ (PyData.list (pdD ds)).shown.length ≤ sizeLine
  refine ⟨by simp only [PyData.showable]; exact a, by simp only [PyData.hasDict]; exact b, by simp only [PyData.depth]; omega, ?_⟩
  have l := PyData.shown_le 21 (by decide) (.list (pdD ds)) (PyData.leavesShort_of_canLay0 21 _ (by simp only [PyData.canLay0]; exact d) (by simp only [PyData.intsShort]; exact e))
  have w : (PyData.list (pdD ds)).weight ≤ 270000 := by simp only [PyData.weight]; omega
  rw [sizeLine_eq]
  omega
theorem tup_shaped {ds : List Deed} (h : ∀ d ∈ ds, Small d) : SeqAt.shaped (.tuple (pdD ds)) = true := by
  obtain ⟨a, b, c, d, e, f⟩ := row_all h
  have h1 : PyData.canLay0 (.tuple (pdD ds)) = true := by simp only [PyData.canLay0]; exact d
  have h2 : PyData.depth (.tuple (pdD ds)) ≤ 64 := by simp only [PyData.depth]; omega
  unfold SeqAt.shaped
  rw [h1, Bool.true_and]
  exact decide_eq_true h2
theorem eqv_cells : ∀ d : Deed, PyData.eqvAll (d.map cd) (d.map cd) = true
  | [] => rfl
  | .inl s :: r => by
    show PyData.eqvAll (PyData.str s :: r.map cd) (PyData.str s :: r.map cd) = true
    simp only [PyData.eqvAll, PyData.eqv, eqv_cells r, Bool.and_true, beq_self_eq_true]
  | .inr i :: r => by
    show PyData.eqvAll (PyData.int i :: r.map cd) (PyData.int i :: r.map cd) = true
    simp only [PyData.eqvAll, PyData.eqv, eqv_cells r, Bool.and_true, beq_self_eq_true]
theorem eqv_rows : ∀ ds : List Deed, PyData.eqvAll (pdD ds) (pdD ds) = true
  | [] => rfl
  | d :: r => by
    show PyData.eqvAll (PyData.tuple (d.map cd) :: pdD r) (PyData.tuple (d.map cd) :: pdD r) = true
    simp only [PyData.eqvAll, PyData.eqv, eqv_cells d, eqv_rows r, Bool.and_true]
def pt (i j : Nat) : PyData := .tuple [.int (i : Nat), .int (j : Nat)]
theorem pt_show {i j : Nat} (hi : i ≤ 10000) (hj : j ≤ 10000) : (pt i j).showable = true ∧ (pt i j).hasDict = false ∧ (pt i j).depth ≤ 40 ∧ (pt i j).shown.length ≤ sizeLine := by
  have lg : ∀ n : Nat, n ≤ 10000 → ((n : Nat) : Int).natAbs.log2 < 20 := fun n hn => PySem.Flt.log2_lt_of (by decide) (show ((n : Nat) : Int).natAbs < 1048576 by omega)
  have tl : ∀ n : Nat, n ≤ 10000 → (Str.ofString (toString ((n : Nat) : Int))).length ≤ 21 := fun n hn => by
    rw [PySem.ofString_length]
    exact int_text_length_le (by decide) (lg n hn)
  have l1 := lg i hi
  have l2 := lg j hj
  refine ⟨?_, rfl, by unfold pt; simp only [PyData.depth, PyData.depthAll]; omega, ?_⟩
  · unfold pt
    simp only [PyData.showable, PyData.showableAll, Bool.and_true, Bool.and_eq_true]
    exact ⟨decide_eq_true (by omega), decide_eq_true (by omega)⟩
  have l := PyData.shown_le 21 (by decide) (pt i j) (PyData.leavesShort_of_canLay0 21 _ (by unfold pt; simp only [PyData.canLay0, PyData.canLayAll0, Bool.and_self]) (by
    unfold pt
    simp only [PyData.intsShort, PyData.intsShortAll, Bool.and_true, Bool.and_eq_true]
    exact ⟨decide_eq_true (tl i hi), decide_eq_true (tl j hj)⟩))
  have w : (pt i j).weight ≤ 2004 := by
    unfold pt
    simp only [PyData.weight, PyData.weightAll]
    have w1 : (if (((i : Nat) : Int) == 0) = true then 0 else ((i : Nat) : Int).natAbs.log2 + 1) ≤ 1000 := by split <;> omega
    have w2 : (if (((j : Nat) : Int) == 0) = true then 0 else ((j : Nat) : Int).natAbs.log2 + 1) ≤ 1000 := by split <;> omega
    omega
  rw [sizeLine_eq]
  omega
theorem pt_dp {K : PySem.W.Frag} {H : Hp} {p : Addr} {i j : Nat} (h : H p = some (.tup [.int (i : Nat), .int (j : Nat)])) : Dp K H (.ref p) (pt i j) := .tup (SqT.of h) (.cons (.int _) (.cons (.int _) .nil))

/-! the law's words, tags, deeds -/
theorem okS_mk {l : List Nat} (h0 : 0 < l.length) (h9 : l.length < 9) (h : ∀ c ∈ l, c ∈ letters.cps.toList) (ns : (⟨l.toArray⟩ : Str) ≠ Str.ofString "self") : okS ⟨l.toArray⟩ = true := by
  unfold okS
  have e : (⟨l.toArray⟩ : Str).length = l.length := List.size_toArray
  rw [e, decide_eq_true h0, decide_eq_true h9, decide_eq_false ns]
  show (true && true && !false && l.all _) = true
  rw [List.all_eq_true.mpr fun c hc => decide_eq_true (h c hc)]
  rfl
theorem keepBut {q p : Addr} {b3 : Nat} {H3 H5 : Hp} {o : HO} (P3 : Pen H3 q b3) (hp : H3 p = none) (t5 : But q H3 H5) : But q H3 (upd H5 p o) := by
  have n := P3.ne hp
  refine ⟨fun a u na e => ?_, fun d x y e => ?_⟩
  · rw [upd_ne (ne_of_none e hp)]
    exact t5.st a u na e
  · rw [upd_ne n.symm]
    exact t5.cl d x y e
theorem Led.more {q : Addr} {b b' : Nat} {H H' : Hp} (l : Led q b H H') (h : b ≤ b') : Led q b' H H' := ⟨l.pen.more h, l.but⟩
theorem Led.start {q : Addr} {b : Nat} {H : Hp} (h : Pen H q b) : Led q b H H := ⟨h, But.self⟩
theorem Led.then {q : Addr} {b b' : Nat} {H H1 H2 : Hp} (a : Led q b H H1) (c : Led q b' H1 H2) : Led q b' H H2 := ⟨c.pen, a.but.trans c.but⟩
def spWord : Sp := fun vs H Q _ => ∃ (q : Addr) (b : Nat), vs = [.ref q] ∧ Pen H q b ∧ b ≤ 90000 ∧ ∀ (s : Str) (H' : Hp), okS s = true → Led q (b + 9) H H' → Q (.str s) H'
def spTag : Sp := fun vs H Q _ => ∃ (q : Addr) (b : Nat), vs = [.ref q] ∧ Pen H q b ∧ b ≤ 80000 ∧ ∀ (s : Str) (H' : Hp), okS s = true → Led q (b + 28) H H' → Q (.str s) H'
def spDeed : Sp := fun vs H Q _ => ∃ (q : Addr) (b : Nat), vs = [.ref q] ∧ Pen H q b ∧ b ≤ 70000 ∧ ∀ (d : Deed) (t : Addr) (H' : Hp), Rt d → H t = none → t ≠ q → Led q (b + 60) H H' → H' t = some (.tup (d.map cv)) → Q (.ref t) H'
section
variable {P : Program} {w : World} {K : PySem.W.Frag} {mg : Str → Option Value} {base : Heap}
theorem ok_law_word (V : VF K mg) : FnOk P w K mg base CX0 3 V.fLW V.dLW ["_law_pen_here"] spWord := by
  have G_law_draw := k_law_draw (P := P) (w := w) (base := base) V
  have G_law_pick := k_law_pick (P := P) (w := w) (base := base) V
  refine V.F_law_word.ok sc_law_word (fun vs H Q E h => ?_) (fun cdv A outer s H vs Q E hr h => ?_)
  · obtain ⟨q, b, rfl, _⟩ := h
    rfl
  · obtain ⟨q, b, rfl, hP, hb, k⟩ := h
    have T := V.t
    refine ⟨_, (pss_cons (ps_set (i := 1) sc_law_word.nd rfl (Or.inl rfl) (pe_ix ix_list (pe_lst (pa_cons pe_int (pa_cons pe_int (pa_cons pe_int (pa_cons pe_int (pa_cons pe_int pa_nil)))))) (pe_call G_law_draw (hr.mono (by decide)) (by rfl) V.g_law_draw V.F_law_draw.kp V.b_law_draw .nil pass0 (pa_cons (pv 0) (pa_cons pe_int pa_nil))) (fun _ _ => rfl)))
      (pss_one (ps_ret (pe_joinJ pe_str (pe_lc (own := [("_law_k", 2)]) (g := (gName 2)) rfl sc_law_word.nd (pi_range1 rfl T.range (pa_cons (pv 1) pa_nil)) (blkOk_by (own := [("_law_k", 2)]) (N := N_law_word) (sc := defScope s_law_word) (by decide +kernel)) (fun _ _ _ _ _ => (pg_name (i := 2) sc_law_word.nd rfl (Or.inl rfl))) (fun _ _ _ _ _ => pts_nil) (fun _ _ _ _ _ => (pe_call G_law_pick (hr.mono (by decide)) (by rfl) V.g_law_pick V.F_law_pick.kp V.b_law_pick .nil pass0 (pa_cons (pv 0) (pa_cons pe_str pa_nil))))))))), ?_⟩
    try dsimp only [cxOf]
    walk_at "hgo"
    intro p hp
    have L1 := (Led.start hP).new (o := .lst [L2.V.int 1, L2.V.int 1, L2.V.int 2, L2.V.int 3, L2.V.int 8]) hp
    have npq : p ≠ q := hP.ne hp
    walk_at "hgo"
    refine ⟨q, 5, b, rfl, L1.pen, by omega, by decide, by decide, ?_⟩
    intro e H3 e0 e1 P3 t3
    have L3 := L1.draw P3 t3
    have hp3 : H3 p = some (.lst [L2.V.int 1, L2.V.int 1, L2.V.int 2, L2.V.int 3, L2.V.int 8]) := t3.st p _ npq upd_same
    walk_at "hgo"
    obtain ⟨m, em, m0, m4, m8⟩ : ∃ m : Int, atI [L2.V.int 1, L2.V.int 1, L2.V.int 2, L2.V.int 3, L2.V.int 8] e = some (.int m) ∧ 1 ≤ m ∧ m ≠ 4 ∧ m ≤ 8 := by
      have h : e = 0 ∨ e = 1 ∨ e = 2 ∨ e = 3 ∨ e = 4 := by omega
      rcases h with rfl | rfl | rfl | rfl | rfl
      · exact ⟨1, rfl, by omega, by omega, by omega⟩
      · exact ⟨1, rfl, by omega, by omega, by omega⟩
      · exact ⟨2, rfl, by omega, by omega, by omega⟩
      · exact ⟨3, rfl, by omega, by omega, by omega⟩
      · exact ⟨8, rfl, by omega, by omega, by omega⟩
    refine g_ixL (SqL.of hp3) em ?_
    walk_at "hgo"
    refine g_rng (by omega) (by omega) ?_
    intro D hD
    refine lc_range (n := m.toNat) (fun i H' => Led q (b + 1 + i) H H' ∧ But q H3 H' ∧ ∃ l : List Nat, l.length = i ∧ (∀ c ∈ l, c ∈ letters.cps.toList) ∧ H' D = some (.lst (l.map fun c => L2.V.str ⟨#[c]⟩))) ⟨L3.new hD, (But.self (q := q) (H := H3)).new hD, [], rfl, fun _ h => (nomatch h), upd_same⟩ ?_ ?_
    · rintro i H4 hi ⟨L4, t45, l, ll, lo, hl⟩
      walk_at "hgo"
      refine ⟨rfl, ?_⟩
      walk_at "hgo"
      refine ⟨q, .str letters, b + 1 + i, rfl, L4.pen, by omega, .inr ⟨letters, rfl, by decide +kernel, by decide +kernel, by decide +kernel, ?_⟩⟩
      intro c H5 hcc P5 t5
      have L5 := L4.draw P5 t5
      walk_at "hgo"
      have nD : D ≠ q := L3.pen.ne hD
      refine ⟨_, t5.st D _ nD hl, ?_, ?_, ?_, ?_⟩
      · rw [List.length_map, ll]
        exact Nat.lt_of_lt_of_le (show i < 1000 by omega) (by decide)
      · exact L5.keep L3.pen hD L3.but (t45.trans t5)
      · exact keepBut L3.pen hD (t45.trans t5)
      · refine ⟨l ++ [c], ?_, ?_, ?_⟩
        · rw [List.length_append, ll]
          rfl
        · intro z hz
          rcases List.mem_append.mp hz with h | h
          · exact lo z h
          · rw [List.mem_singleton.mp h]
            exact hcc
        · rw [upd_same, List.map_append]
          rfl
    · rintro H4 ⟨L4, t45, l, ll, lo, hl⟩
      walk_at "hgo"
      have e1 : l.map (fun c => L2.V.str ⟨#[c]⟩) = (l.map fun c => (⟨#[c]⟩ : Str)).map L2.V.str := by
        rw [List.map_map]
        rfl
      rw [e1] at hl
      have e2 : ((l.map fun c => (⟨#[c]⟩ : Str)).map (·.length)).sum = l.length := by
        clear hl e1 lo ll
        induction l with
        | nil => rfl
        | cons c r ih =>
          rw [List.map_cons, List.map_cons, List.sum_cons, ih, List.length_cons]
          show 1 + r.length = _
          omega
      refine g_join (SqL.of hl) ?_ ?_
      · rw [e2]
        show l.length + _ * 0 ≤ _
        omega
      · rw [join_signs]
        walk_at "hgo"
        refine k _ H4 (okS_mk (by omega) (by omega) lo fun z => ?_) (L4.more (by omega))
        have q := congrArg Str.length z
        have e4 : (Str.ofString "self").length = 4 := by decide +kernel
        have e5 : (⟨l.toArray⟩ : Str).length = l.length := List.size_toArray
        rw [e4, e5] at q
        omega
theorem tag_ok : ∀ s ∈ [Str.ofString "open", Str.ofString "settle", Str.ofString "book", Str.ofString "move"], okS s = true := by decide +kernel
theorem ok_law_tag (V : VF K mg) : FnOk P w K mg base CX0 4 V.fLT V.dLT ["_law_pen_here"] spTag := by
  have G_law_word := ok_law_word (P := P) (w := w) (base := base) V
  have G_law_pick := k_law_pick (P := P) (w := w) (base := base) V
  refine V.F_law_tag.ok sc_law_tag (fun vs H Q E h => ?_) (fun cdv A outer s H vs Q E hr h => ?_)
  · obtain ⟨q, b, rfl, _⟩ := h
    rfl
  · obtain ⟨q, b, rfl, hP, hb, k⟩ := h
    have T := V.t
    refine ⟨_, (pss_one (ps_ret (pe_call G_law_pick (hr.mono (by decide)) (by rfl) V.g_law_pick V.F_law_pick.kp V.b_law_pick .nil pass0 (pa_cons (pv 0) (pa_cons (pe_lst (pa_cons pe_str (pa_cons pe_str (pa_cons pe_str (pa_cons pe_str (pa_cons (pe_call G_law_word (hr.mono (by decide)) (by rfl) V.g_law_word V.F_law_word.kp V.b_law_word .nil pass0 (pa_cons (pv 0) pa_nil)) (pa_cons (pe_call G_law_word (hr.mono (by decide)) (by rfl) V.g_law_word V.F_law_word.kp V.b_law_word .nil pass0 (pa_cons (pv 0) pa_nil)) (pa_cons (pe_call G_law_word (hr.mono (by decide)) (by rfl) V.g_law_word V.F_law_word.kp V.b_law_word .nil pass0 (pa_cons (pv 0) pa_nil)) pa_nil)))))))) pa_nil))))), ?_⟩
    try dsimp only [cxOf]
    walk_at "hgo"
    refine ⟨q, b, rfl, hP, by omega, fun s1 H1 k1 L1 => ?_⟩
    walk_at "hgo"
    refine ⟨q, _, rfl, L1.pen, by omega, fun s2 H2 k2 L2' => ?_⟩
    walk_at "hgo"
    refine ⟨q, _, rfl, L2'.pen, by omega, fun s3 H3 k3 L3 => ?_⟩
    walk_at "hgo"
    intro p hp
    have L4 := ((L1.then L2').then L3).new (o := .lst [L2.V.str (Str.ofString "open"), L2.V.str (Str.ofString "settle"), L2.V.str (Str.ofString "book"), L2.V.str (Str.ofString "move"), L2.V.str s1, L2.V.str s2, L2.V.str s3]) hp
    walk_at "hgo"
    refine ⟨q, .ref p, b + 9 + 9 + 9, rfl, L4.pen, by omega, .inl ⟨p, _, rfl, L3.pen.ne hp, upd_same, by simp, by simp, fun v H5 hv P5 t5 => ?_⟩⟩
    walk_at "hgo"
    have L5 := L4.draw P5 t5
    simp only [List.mem_cons, List.not_mem_nil, or_false] at hv
    rcases hv with rfl | rfl | rfl | rfl | rfl | rfl | rfl
    · exact k _ H5 (tag_ok _ (by simp)) (L5.more (by omega))
    · exact k _ H5 (tag_ok _ (by simp)) (L5.more (by omega))
    · exact k _ H5 (tag_ok _ (by simp)) (L5.more (by omega))
    · exact k _ H5 (tag_ok _ (by simp)) (L5.more (by omega))
    · exact k _ H5 k1 (L5.more (by omega))
    · exact k _ H5 k2 (L5.more (by omega))
    · exact k _ H5 k3 (L5.more (by omega))
def six : List Str := [Str.ofString "open", closeS, Str.ofString "move", Str.ofString "book", Str.ofString "restart", Str.ofString "settle"]
theorem in_two (x : Str) (h : x ∈ six) : inV (L2.V.str x) [L2.V.str (Str.ofString "open"), L2.V.str (Str.ofString "book")] = decide (x = Str.ofString "open" ∨ x = Str.ofString "book") := by
  revert x
  decide +kernel
set_option maxHeartbeats 16000000 in
theorem ok_law_deed (V : VF K mg) : FnOk P w K mg base CX0 5 V.fLE V.dLE ["_law_pen_here"] spDeed := by
  have G_law_draw := k_law_draw (P := P) (w := w) (base := base) V
  have G_law_pick := k_law_pick (P := P) (w := w) (base := base) V
  have G_law_tag := ok_law_tag (P := P) (w := w) (base := base) V
  refine V.F_law_deed.ok sc_law_deed (fun vs H Q E h => ?_) (fun cdv A outer s H vs Q E hr h => ?_)
  · obtain ⟨q, b, rfl, _⟩ := h
    rfl
  · obtain ⟨q, b, rfl, hP, hb, k⟩ := h
    have T := V.t
    refine ⟨_, (pss_cons (ps_set (i := 1) sc_law_deed.nd rfl (Or.inl rfl) (pe_call G_law_pick (hr.mono (by decide)) (by rfl) V.g_law_pick V.F_law_pick.kp V.b_law_pick .nil pass0 (pa_cons (pv 0) (pa_cons (pe_lst (pa_cons pe_str (pa_cons pe_str (pa_cons pe_str (pa_cons pe_str (pa_cons pe_str (pa_cons pe_str pa_nil))))))) pa_nil))))
      (pss_cons (ps_if (pt_cmpR op_in_seq (pv 1) (pe_tup (pa_cons pe_str (pa_cons pe_str pa_nil))) rfl) (pss_one (ps_ret (pe_tup (pa_cons (pv 1) (pa_cons (pe_call G_law_tag (hr.mono (by decide)) (by rfl) V.g_law_tag V.F_law_tag.kp V.b_law_tag .nil pass0 (pa_cons (pv 0) pa_nil)) (pa_cons (pe_call G_law_tag (hr.mono (by decide)) (by rfl) V.g_law_tag V.F_law_tag.kp V.b_law_tag .nil pass0 (pa_cons (pv 0) pa_nil)) pa_nil)))))) pss_nil)
      (pss_cons (ps_if (pt_cmpR op_eq (pv 1) pe_str (nomark _)) (pss_one (ps_ret (pe_tup (pa_cons (pv 1) (pa_cons (pe_ix ix_list (pe_lst (pa_cons (pe_call G_law_draw (hr.mono (by decide)) (by rfl) V.g_law_draw V.F_law_draw.kp V.b_law_draw .nil pass0 (pa_cons (pv 0) (pa_cons pe_int pa_nil))) (pa_cons (pe_call G_law_draw (hr.mono (by decide)) (by rfl) V.g_law_draw V.F_law_draw.kp V.b_law_draw .nil pass0 (pa_cons (pv 0) (pa_cons (pe_op op_pow pe_int pe_int) pa_nil))) pa_nil))) (pe_call G_law_draw (hr.mono (by decide)) (by rfl) V.g_law_draw V.F_law_draw.kp V.b_law_draw .nil pass0 (pa_cons (pv 0) (pa_cons pe_int pa_nil))) (fun _ _ => rfl)) pa_nil))))) pss_nil)
      (pss_one (ps_ret (pe_ifExp (pt_cmpR op_eq (pv 1) pe_str (nomark _)) (pe_tup (pa_cons (pv 1) pa_nil)) (pe_tup (pa_cons (pv 1) (pa_cons (pe_call G_law_tag (hr.mono (by decide)) (by rfl) V.g_law_tag V.F_law_tag.kp V.b_law_tag .nil pass0 (pa_cons (pv 0) pa_nil)) pa_nil))))))))), ?_⟩
    try dsimp only [cxOf]
    walk_at "hgo"
    intro p hp
    have L1 := (Led.start hP).new (o := .lst (six.map L2.V.str)) hp
    walk_at "hgo"
    refine ⟨q, .ref p, b, rfl, L1.pen, by omega, .inl ⟨p, six.map L2.V.str, rfl, hP.ne hp, upd_same, by decide, by decide, fun v H1 hv P1 t1 => ?_⟩⟩
    have L2' := L1.draw P1 t1
    clear L1 t1 P1
    obtain ⟨x, hx, rfl⟩ := List.mem_map.mp hv
    walk_at "hgo"
    intro p2 hp2
    have L3 := L2'.new (o := .tup [L2.V.str (Str.ofString "open"), L2.V.str (Str.ofString "book")]) hp2
    refine ⟨p2, _, rfl, .inr (SqT.of upd_same), rfl, rfl, ?_⟩
    generalize upd H1 p2 (.tup [L2.V.str (Str.ofString "open"), L2.V.str (Str.ofString "book")]) = H2 at L3 ⊢
    clear L2'
    rw [if_neg (by decide), in_two x hx]
    by_cases c1 : x = Str.ofString "open" ∨ x = Str.ofString "book"
    · rw [decide_eq_true c1]
      refine ⟨_, rfl, ?_⟩
      walk_at "hgo"
      refine ⟨q, _, rfl, L3.pen, by omega, fun s1 H3 k1 L4 => ?_⟩
      have L5 := L3.then L4
      walk_at "hgo"
      refine ⟨q, _, rfl, L5.pen, by omega, fun s2 H4 k2 L6 => ?_⟩
      have L7 := L5.then L6
      walk_at "hgo"
      intro t ht
      walk_at "hgo"
      have ntq : t ≠ q := L7.pen.ne ht
      exact k [.inl x, .inl s1, .inl s2] t _ (.two c1 k1 k2) (L7.but.free ntq ht) ntq ((L7.new ht).more (by omega)) upd_same
    · rw [decide_eq_false c1]
      refine ⟨_, rfl, ?_⟩
      walk_at "hgo"
      by_cases c2 : x = closeS
      · refine g_true (by rw [c2]; decide +kernel) ?_
        walk_at "hgo"
        refine ⟨q, 3, _, rfl, L3.pen, by omega, by decide, by decide, ?_⟩
        intro d1 H3 d10 d11 P4 t4
        have L4 := L3.draw P4 t4
        walk_at "hgo"
        refine ⟨q, 1000000, _, rfl, L4.pen, by omega, by decide, by decide, ?_⟩
        intro d2 H4 d20 d21 P5 t5
        have L5 := L4.draw P5 t5
        walk_at "hgo"
        intro r hr'
        have nrq : r ≠ q := L5.pen.ne hr'
        have L6 := L5.new (o := .lst [L2.V.int d1, L2.V.int d2]) hr'
        walk_at "hgo"
        refine ⟨q, 2, _, rfl, L6.pen, by omega, by decide, by decide, ?_⟩
        intro e H5 e0 e1 P7 t7
        have L7 := L6.draw P7 t7
        walk_at "hgo"
        obtain ⟨n, en, n0, n1⟩ : ∃ n : Int, atI [L2.V.int d1, L2.V.int d2] e = some (.int n) ∧ 0 ≤ n ∧ n < 10 ^ 6 := by
          have h : e = 0 ∨ e = 1 := by omega
          have e6 : (10 : Int) ^ 6 = 1000000 := by decide
          rcases h with rfl | rfl
          · exact ⟨d1, rfl, by omega, by omega⟩
          · exact ⟨d2, rfl, by omega, by omega⟩
        refine g_ixL (SqL.of (t7.st _ _ nrq upd_same)) en ?_
        walk_at "hgo"
        intro t ht
        walk_at "hgo"
        have ntq : t ≠ q := L7.pen.ne ht
        refine k [.inl closeS, .inr n] t _ (.num n0 n1) (L7.but.free ntq ht) ntq ((L7.new ht).more (by omega)) ?_
        rw [upd_same, c2]
        rfl
      · refine g_false (by simp [c2]; exact c2) ?_
        walk_at "hgo"
        by_cases c3 : x = Str.ofString "settle"
        · refine g_true (by simp [c3]) ?_
          walk_at "hgo"
          intro t ht
          walk_at "hgo"
          have ntq : t ≠ q := L3.pen.ne ht
          refine k [.inl (Str.ofString "settle")] t _ .non (L3.but.free ntq ht) ntq ((L3.new ht).more (by omega)) ?_
          rw [upd_same, c3]
          rfl
        · refine g_false (by simp [c3]) ?_
          walk_at "hgo"
          refine ⟨q, _, rfl, L3.pen, by omega, fun s1 H3 k1 L4 => ?_⟩
          have L5 := L3.then L4
          walk_at "hgo"
          intro t ht
          walk_at "hgo"
          have ntq : t ≠ q := L5.pen.ne ht
          refine k [.inl x, .inl s1] t _ (.one ?_ k1) (L5.but.free ntq ht) ntq ((L5.new ht).more (by omega)) upd_same
          have hx2 := hx
          unfold six at hx2
          simp only [List.mem_cons, List.not_mem_nil, or_false] at hx2
          rcases hx2 with z | z | z | z | z | z
          · exact absurd (.inl z) c1
          · exact absurd z c2
          · exact .inl z
          · exact absurd (.inr z) c1
          · exact .inr z
          · exact absurd z c3
end

/-! the law's own look -/
theorem dp_signs {K : PySem.W.Frag} {H : Hp} : ∀ l : List Nat, DpAll K H (l.map fun c => L2.V.str ⟨#[c]⟩) (l.map fun c => PyData.str ⟨#[c]⟩)
  | [] => .nil
  | c :: r => .cons (.str _) (dp_signs r)
theorem shaped_signs : ∀ l : List Nat, (∀ c ∈ l, c < 0x110000) → PyData.canLayAll0 (l.map fun c => PyData.str ⟨#[c]⟩) = true ∧ PyData.depthAll (l.map fun c => PyData.str ⟨#[c]⟩) ≤ 1
  | [], _ => by simp [PyData.canLayAll0, PyData.depthAll]
  | c :: r, h => by
    have ih := shaped_signs r fun x hx => h x (List.mem_cons_of_mem _ hx)
    have hc := h c List.mem_cons_self
    rw [List.map_cons]
    simp only [PyData.canLayAll0, PyData.canLay0, PyData.depthAll, PyData.depth]
    refine ⟨?_, by omega⟩
    rw [ih.1, Bool.and_true]
    simp [PyData.strOk]
    exact hc
theorem shapedSigns {l : List Nat} (h : ∀ c ∈ l, c < 0x110000) : SeqAt.shaped (.list (l.map fun c => PyData.str ⟨#[c]⟩)) = true := by
  have s := shaped_signs l h
  have h1 : PyData.canLay0 (.list (l.map fun c => PyData.str ⟨#[c]⟩)) = true := by
    simp only [PyData.canLay0]
    exact s.1
  have h2 : PyData.depth (.list (l.map fun c => PyData.str ⟨#[c]⟩)) ≤ 64 := by
    simp only [PyData.depth]
    omega
  unfold SeqAt.shaped
  rw [h1, Bool.true_and]
  exact decide_eq_true h2
theorem eqvSigns (l : List Nat) : PyData.eqv (.list (l.map fun c => PyData.str ⟨#[c]⟩)) (.list []) = decide (l = []) := by
  cases l with
  | nil => simp [PyData.eqv, PyData.eqvAll]
  | cons a r => simp [PyData.eqv, PyData.eqvAll]
def odd (z : Str) (l : List Nat) : List Nat := l.filter fun c => !decide (c ∈ z.cps.toList)
theorem odd_in {z : Str} {l : List Nat} {c : Nat} (m : c ∈ z.cps.toList) : odd z (l ++ [c]) = odd z l := by
  unfold odd
  rw [List.filter_append, List.filter_cons_of_neg (by rw [decide_eq_true m]; decide), List.filter_nil, List.append_nil]
theorem odd_out {z : Str} {l : List Nat} {c : Nat} (m : ¬ c ∈ z.cps.toList) : odd z (l ++ [c]) = odd z l ++ [c] := by
  unfold odd
  rw [List.filter_append, List.filter_cons_of_pos (by rw [decide_eq_false m]; rfl), List.filter_nil]
theorem odd_nil (z : Str) (l : List Nat) : decide (odd z l = []) = l.all fun c => decide (c ∈ z.cps.toList) := by
  unfold odd
  rw [Bool.eq_iff_iff]
  simp [List.filter_eq_nil_iff, List.all_eq_true]
def digitS : Str := Str.ofString "0123456789"
theorem digitS_is : digitS.cps.toList = List.range' 48 10 := by decide +kernel
theorem mem_digitS (c : Nat) : decide (c ∈ digitS.cps.toList) = dig c := by
  rw [digitS_is, Bool.eq_iff_iff, decide_eq_true_eq, List.mem_range'_1]
  unfold dig
  simp
  omega

theorem take_next {x : Str} {i : Nat} {c : Nat} (hc : x.cps[i]? = some c) : x.cps.toList.take (i + 1) = x.cps.toList.take i ++ [c] := by
  have hc' : x.cps.toList[i]? = some c := by
    rw [Array.getElem?_toList]
    exact hc
  rw [List.take_add_one, hc']
  rfl
theorem odd_len {z x : Str} {i : Nat} (h : x.length ≤ 100000) : ((odd z (x.cps.toList.take i)).map fun c => L2.V.str ⟨#[c]⟩).length < sizeLine := by
  rw [List.length_map]
  have h1 : (odd z (x.cps.toList.take i)).length ≤ (x.cps.toList.take i).length := List.length_filter_le _ _
  have h3 : (x.cps.toList.take i).length ≤ x.cps.toList.length := by rw [List.length_take]; exact Nat.min_le_right _ _
  have h2 : x.cps.toList.length = x.length := Array.length_toList
  exact Nat.lt_of_lt_of_le (show (odd z (x.cps.toList.take i)).length < 200000 by omega) (by decide)
theorem take_all (x : Str) : x.cps.toList.take x.cps.size = x.cps.toList := by
  have hl : x.cps.size = x.cps.toList.length := (Array.length_toList).symm
  rw [hl]
  exact List.take_length
def nameS : Str := Str.ofString "name"
def numberS : Str := Str.ofString "number"
def rightB (s x : Str) : Bool := if s = nameS then okS x else num6 x
def spIsRight : Sp := fun vs H Q _ => ∃ s x, vs = [.str s, .str x] ∧ x.length ≤ 100000 ∧ Fit x ∧ ∀ H', Same H H' → Q (.bl (rightB s x)) H'
theorem okS_look (x : Str) : okS x = (decide (0 < x.length) && decide (x.length < 9) && (decide (odd letters x.cps.toList = []) && !decide (x = Str.ofString "self"))) := by
  rw [odd_nil]
  unfold okS
  cases decide (0 < x.length) <;> cases decide (x.length < 9) <;> cases decide (x = Str.ofString "self") <;> simp
section
variable {P : Program} {w : World} {K : PySem.W.Frag} {mg : Str → Option Value} {base : Heap}
set_option maxHeartbeats 16000000 in
theorem ok_law_is_right (V : VF K mg) : FnOk P w K mg base CX0 1 V.fLI V.dLI ["_law_sort", "_law_word_here"] spIsRight := by
  refine V.F_law_is_right.ok sc_law_is_right (fun vs H Q E h => ?_) (fun cdv A outer s H vs Q E hr h => ?_)
  · obtain ⟨s, x, rfl, _⟩ := h
    rfl
  · obtain ⟨s, x, rfl, hs, fit, k⟩ := h
    have T := V.t
    refine ⟨_, (pss_cons (ps_if (pt_cmpR op_eq (pv 0) pe_str (nomark _)) (pss_cons (ps_setLc (i := 2) (own := [("_law_sign", 3)]) (g := (gName 3)) rfl sc_law_is_right.nd rfl rfl (sw_true rfl rfl rfl (by decide +kernel)) (pi_str (pv 1)) (blkOk_by (own := [("_law_sign", 3)]) (N := N_law_is_right) (sc := defScope s_law_is_right) (by decide +kernel)) (fun _ _ _ _ _ => (pg_name (i := 3) sc_law_is_right.nd rfl (Or.inl rfl))) (fun _ _ _ _ _ => (pts_one (pt_cmpR op_notInS (pv 3) pe_str rfl))) (fun _ _ _ _ _ => (pv 3)))
      (pss_one (ps_ret (pe_and (pe_chain op_lt op_lt pe_int (pe_callB call_lenS (by rfl) T.len (by decide +kernel) (pa_cons (pv 1) pa_nil)) pe_int) (pe_and (pe_cmpR (op_eqD (hr.units)) (pv 2) (pe_lst pa_nil) (nomark _)) (pe_one (pe_cmpR op_ne (pv 1) pe_str (nomark _)))))))) pss_nil)
      (pss_cons (ps_if (PW.pt (pw_or (pt_not (pt_chain op_lt op_lt pe_int (pe_callB call_lenS (by rfl) T.len (by decide +kernel) (pa_cons (pv 1) pa_nil)) pe_int)) (pw_or1 (PW.pt (pw_and (pt_cmpR op_eq (pe_ix ix_str (pv 1) pe_int (fun _ _ => rfl)) pe_str (nomark _)) (pw_and1 (pt_cmpR op_ne (pv 1) pe_str (nomark _)))))))) (pss_one (ps_ret pe_bl)) pss_nil)
      (pss_one (ps_ret (pe_cmpR (op_eqD (hr.units)) (pe_lc (own := [("_law_sign", 3)]) (g := (gName 3)) rfl sc_law_is_right.nd (pi_str (pv 1)) (blkOk_by (own := [("_law_sign", 3)]) (N := N_law_is_right) (sc := defScope s_law_is_right) (by decide +kernel)) (fun _ _ _ _ _ => (pg_name (i := 3) sc_law_is_right.nd rfl (Or.inl rfl))) (fun _ _ _ _ _ => (pts_one (pt_cmpR op_notInS (pv 3) pe_str rfl))) (fun _ _ _ _ _ => (pv 3))) (pe_lst pa_nil) (nomark _)))))), ?_⟩
    try dsimp only [cxOf]
    walk_at "hgo"
    by_cases c0 : s = Str.ofString "name"
    · have rb : rightB s x = okS x := if_pos c0
      rw [rb] at k
      refine g_true (by simp [c0]) ?_
      walk_at "hgo"
      refine fun D hD => lc_it walk_str (fun i H' => Same H H' ∧ H' D = some (.lst ((odd letters (x.cps.toList.take i)).map fun c => L2.V.str ⟨#[c]⟩))) ⟨same_new hD, upd_same⟩ (fun _ _ _ _ => trivial) ?_ ?_
      · rintro i y H1 H2 hi ⟨sm, hd⟩ ⟨rfl, c, hc, rfl⟩
        walk_at "hgo"
        refine ⟨rfl, ?_⟩
        walk_at "hgo"
        show (if (!decide (c ∈ letters.cps.toList)) = true then _ else _)
        by_cases m : c ∈ letters.cps.toList
        · refine g_false (by simp [m]) ?_
          exact ⟨sm, by rw [take_next hc, hd, odd_in m]⟩
        · refine g_true (by simp [m]) ?_
          walk_at "hgo"
          exact ⟨_, hd, odd_len hs, same_past sm hD, by rw [upd_same, take_next hc, odd_out m, List.map_append]; rfl⟩
      · rintro H1 ⟨sm, hd⟩
        rw [take_all] at hd
        walk_at "hgo"
        refine g_lenS (small_of (by omega)) ?_
        walk_at "hgo"
        rw [okS_look x] at k
        refine ite2 (fun c1 => ?_) (fun c1 => ?_)
        · walk_at "hgo"
          have z0 : decide (0 < x.length) = true := decide_eq_true (by have := of_decide_eq_true c1; omega)
          refine ite2 (fun c2 => ?_) (fun c2 => ?_)
          · have z9 : decide (x.length < 9) = true := decide_eq_true (by have := of_decide_eq_true c2; omega)
            walk_at "hgo"
            intro p hp
            have hd1 := look_past (o := .lst []) (ne_of_none hd hp) hd
            refine g_eqD (.lst (SqL.of hd1) (dp_signs _)) (.lst (SqL.of upd_same) .nil) (shapedSigns fun c hc => fit.all c (List.mem_filter.mp hc).1) (by decide +kernel) ?_
            rw [eqvSigns]
            walk_at "hgo"
            have sp : Same H (upd H1 p (.lst [])) := fun b o e => by rw [upd_ne (ne_of_none (sm b o e) hp)]; exact sm b o e
            rw [z0, z9] at k
            by_cases od : odd letters x.cps.toList = []
            · rw [decide_eq_true od] at k ⊢
              refine iteT ?_
              walk_at "hgo"
              have q : decide (L2.V.str x = L2.V.str (Str.ofString "self")) = decide (x = Str.ofString "self") := by simp
              rw [q]
              exact k _ sp
            · rw [decide_eq_false od] at k ⊢
              refine iteF ?_
              exact k _ sp
          · walk_at "hgo"
            have z9 : decide (x.length < 9) = false := decide_eq_false (by have := of_decide_eq_false (Bool.eq_false_iff.mpr c2); omega)
            rw [z0, z9] at k
            exact k H1 sm
        · walk_at "hgo"
          have z0 : decide (0 < x.length) = false := decide_eq_false (by have := of_decide_eq_false (Bool.eq_false_iff.mpr c1); omega)
          rw [z0] at k
          exact k H1 sm
    · have rb : rightB s x = num6 x := if_neg c0
      rw [rb] at k
      refine g_false (by simp [c0]) ?_
      walk_at "hgo"
      refine g_lenS (small_of (by omega)) ?_
      walk_at "hgo"
      refine ite2 (fun c1 => ?_) (fun c1 => ?_)
      · walk_at "hgo"
        have z0 : 0 < x.length := by have := of_decide_eq_true c1; omega
        by_cases c2 : x.length < 7
        · refine g_false (by rw [decide_eq_true (show (x.length : Int) < 7 by omega)]; rfl) ?_
          walk_at "hgo"
          have dig0 : (Same H H → Q (.bl (num6 x)) H) ∧ ((TL.tl x).head? = some 48 → x = Str.ofString "0") → tRet (tOp (rEqD K) (tLc (iStr (tVar 1)) (gName 3) (tTest (tOp rNotInS (tVar 3) (tC (L2.V.str (Str.ofString "0123456789"))))) (tVar 3) (List.map (fun x => x.snd) [(Str.ofString "_law_sign", 3)])) (tLst tNil)) { nx := fun x H' => Q L2.V.non H', rt := Q } (L2.start N_law_is_right [L2.V.str s, L2.V.str x]) H := fun ⟨_, hz⟩ => by
            rw [num6_look z0 c2 hz, show (TL.tl x).all dig = decide (odd digitS x.cps.toList = []) by rw [odd_nil]; show (TL.tl x).all dig = (TL.tl x).all _; simp only [mem_digitS]] at k
            walk_at "hgo"
            refine fun D hD => lc_it walk_str (fun i H' => Same H H' ∧ H' D = some (.lst ((odd digitS (x.cps.toList.take i)).map fun c => L2.V.str ⟨#[c]⟩))) ⟨same_new hD, upd_same⟩ (fun _ _ _ _ => trivial) ?_ ?_
            · rintro i y H1 H2 hi ⟨sm, hd⟩ ⟨rfl, c, hc, rfl⟩
              walk_at "hgo"
              refine ⟨rfl, ?_⟩
              walk_at "hgo"
              show (if (!decide (c ∈ digitS.cps.toList)) = true then _ else _)
              by_cases m : c ∈ digitS.cps.toList
              · refine g_false (by simp [m]) ?_
                exact ⟨sm, by rw [take_next hc, hd, odd_in m]⟩
              · refine g_true (by simp [m]) ?_
                walk_at "hgo"
                exact ⟨_, hd, odd_len hs, same_past sm hD, by rw [upd_same, take_next hc, odd_out m, List.map_append]; rfl⟩
            · rintro H1 ⟨sm, hd⟩
              rw [take_all] at hd
              walk_at "hgo"
              intro p hp
              have hd1 := look_past (o := .lst []) (ne_of_none hd hp) hd
              refine g_eqD (.lst (SqL.of hd1) (dp_signs _)) (.lst (SqL.of upd_same) .nil) (shapedSigns fun c hc => fit.all c (List.mem_filter.mp hc).1) (by decide +kernel) ?_
              rw [eqvSigns]
              walk_at "hgo"
              exact k _ fun b o e => by rw [upd_ne (ne_of_none (sm b o e) hp)]; exact sm b o e
          have ne : TL.tl x ≠ [] := fun e => by rw [TL.len_tl, e] at z0; exact Nat.lt_irrefl _ z0
          obtain ⟨c0', r0, e0⟩ : ∃ c0 r0, TL.tl x = c0 :: r0 := by
            generalize TL.tl x = l at ne
            cases l with
            | nil => exact absurd rfl ne
            | cons a r => exact ⟨a, r, rfl⟩
          refine g_ixS (i := ((0 : Nat) : Int)) (c := c0') (small_of (by omega)) (atI_nat (show (TL.tl x)[0]? = some c0' by rw [e0]; rfl)) ?_
          walk_at "hgo"
          by_cases c3 : c0' = 48
          · refine g_true (decide_eq_true (congrArg L2.V.str (by rw [c3]; exact TL.ext_tl zero_tl.symm))) ?_
            walk_at "hgo"
            by_cases c4 : x = Str.ofString "0"
            · refine g_false (by simp [c4]) ?_
              exact dig0 ⟨k H, fun _ => c4⟩
            · refine g_true (by simp [c4]) ?_
              walk_at "hgo"
              have e : num6 x = false := by
                cases z : num6 x with
                | false => rfl
                | true => exact absurd ((num6_len z).2.2 (by rw [e0, c3]; rfl)) c4
              rw [e] at k
              exact k H (Same.refl H)
          · refine g_false (decide_eq_false fun w => c3 ?_) ?_
            · have q := congrArg TL.tl (L2.V.str.inj w)
              rw [zero_tl] at q
              exact (List.cons.inj q).1
            exact dig0 ⟨k H, fun w => by rw [e0] at w; exact absurd (Option.some.inj w) c3⟩
        · refine g_true (by rw [decide_eq_false (show ¬ (x.length : Int) < 7 by omega)]; rfl) ?_
          walk_at "hgo"
          have e : num6 x = false := by
            cases z : num6 x with
            | false => rfl
            | true => exact absurd (num6_len z).2.1 c2
          rw [e] at k
          exact k H (Same.refl H)
      · walk_at "hgo"
        have e : num6 x = false := by
          cases z : num6 x with
          | false => rfl
          | true => exact absurd (decide_eq_true (show (0 : Int) < (x.length : Int) by have := (num6_len z).1; omega)) c1
        rw [e] at k
        exact k H (Same.refl H)
end

def spWrong (K : PySem.W.Frag) : Sp := fun vs H Q _ => ∃ (a : Addr) (ws : List Str), vs = [.ref a] ∧ H a = some (.lst (ws.map L2.V.str)) ∧ ws ≠ [] ∧ ws.length ≤ 3000 ∧ (∀ x ∈ ws, x.length ≤ 2000 ∧ Fit x) ∧
  (∀ d H', dueL ws = .inr d → Same H H' → Q .non H') ∧ ∀ (j : Nat) H', dueL ws = .inl j → Same H H' → Q (.int (j : Nat)) H'
theorem g_pairs {tk tv : TE} {r : List (TE × TE)} {σ : L2.St} {H : Hp} {Q : List (L2.V × L2.V) → Hp → Prop} (h : tk σ H fun x H1 => tv σ H1 fun y H2 => tPairs r σ H2 fun ps H3 => Q ((x, y) :: ps) H3) : tPairs ((tk, tv) :: r) σ H Q := h
theorem g_dnin {ty td : TE} {σ : L2.St} {H : Hp} {Q : VK} (h : ty σ H fun y H1 => td σ H1 fun x H2 => ∃ a o, x = .ref a ∧ DGet H2 a y o ∧ Q (.bl (!o.isSome)) H2) : tDNotIn ty td σ H Q := h
theorem g_dget {ty td : TE} {σ : L2.St} {H : Hp} {Q : VK} (h : td σ H fun x H1 => ty σ H1 fun y H2 => ∃ a v, x = .ref a ∧ DGet H2 a y (some v) ∧ Q v H2) : tDGet td ty σ H Q := h
/-- the law's sorts of words -/
structure SortsAt (x : Str) (ss : List Str) : Prop where
  n : sizesL.lookup x = some ((ss.length + 1 : Nat) : Int)
  two : ss.length ≤ 2
  k : (x = closeS ∧ ss = [numberS]) ∨ (x ≠ closeS ∧ ∀ s ∈ ss, s = nameS)
def chk (ss ws : List Str) (k : Nat) : Bool := match ss[k]?, ws[k + 1]? with
  | some s, some x => rightB s x
  | _, _ => false
theorem right_name (x : Str) : rightB nameS x = okS x := if_pos rfl
theorem right_num (x : Str) : rightB numberS x = num6 x := if_neg (by decide +kernel)
theorem chk_name {x : Str} {ss r : List Str} {k : Nat} (h : ∀ s ∈ ss, s = nameS) (hk : k < ss.length) : chk ss (x :: r) k = okAt (x :: r) (k + 1) := by
  unfold chk okAt
  rw [List.getElem?_eq_getElem hk, h _ (List.getElem_mem hk)]
  cases (x :: r)[k + 1]? with
  | none => rfl
  | some y => exact right_name y
theorem due_wrong {x : Str} {ss r : List Str} {k : Nat} (h : SortsAt x ss) (hk : k < ss.length) (a : ∀ j < k, chk ss (x :: r) j = true) (b : chk ss (x :: r) k = false) : dueL (x :: r) = .inl (k + 1) := by
  rcases h.k with ⟨z, rfl⟩ | ⟨z, nm⟩
  · have k0 : k = 0 := by have : [numberS].length = 1 := rfl; omega
    subst k0
    rw [due_close z]
    cases r with
    | nil => rfl
    | cons y r' =>
      have e : num6 y = false := by rw [← right_num]; exact b
      show (if num6 y = true then _ else _) = _
      rw [e]
      rfl
  · rw [due_names h.n z]
    refine dueN_bad (bad_at (by rw [Int.toNat_natCast]; exact hk) (fun j hj => ?_) ?_)
    · rw [← chk_name (x := x) (r := r) nm (by omega)]; exact a j hj
    · rw [← chk_name (x := x) (r := r) nm hk]; exact b
theorem due_right {x : Str} {ss r : List Str} (h : SortsAt x ss) (a : ∀ j < ss.length, chk ss (x :: r) j = true) : (r.length = ss.length ∧ ∃ d, dueL (x :: r) = .inr d) ∨ (r.length ≠ ss.length ∧ dueL (x :: r) = .inl (ss.length + 1)) := by
  rcases h.k with ⟨z, rfl⟩ | ⟨z, nm⟩
  · have b := a 0 (by decide)
    rw [due_close z]
    cases r with
    | nil => cases b
    | cons y r' =>
      have e : num6 y = true := by rw [← right_num]; exact b
      have q : dueC x (y :: r') = if r' = [] then .inr [.inl x, .inr (numN y)] else .inl 2 := by
        show (if num6 y = true then _ else _) = _
        rw [e]
        rfl
      by_cases w : r' = []
      · exact .inl ⟨by rw [w]; rfl, _, by rw [q, if_pos w]⟩
      · refine .inr ⟨fun v => w (List.length_eq_zero_iff.mp (by have : (y :: r').length = r'.length + 1 := List.length_cons; have : [numberS].length = 1 := rfl; omega)), by rw [q, if_neg w]; rfl⟩
  · rw [due_names h.n z]
    have nb : bad (x :: r) (((ss.length + 1 : Nat) : Int).toNat - 1) = none := bad_no fun j hj => by
      rw [Int.toNat_natCast] at hj
      rw [← chk_name (x := x) (r := r) nm (by omega)]
      exact a j (by omega)
    rw [dueN_ok nb, Int.toNat_natCast]
    by_cases w : r.length = ss.length
    · exact .inl ⟨w, _, if_pos (by omega)⟩
    · exact .inr ⟨w, if_neg (by omega)⟩
def D4 (l1 l2 l3 l4 : Addr) : List (Key × L2.V) := [(.inr (Str.ofString "open"), .ref l1), (.inr (Str.ofString "close"), .ref l2), (.inr (Str.ofString "move"), .ref l3), (.inr (Str.ofString "book"), .ref l4)]
def D6 (l1 l2 l3 l4 l5 l6 : Addr) : List (Key × L2.V) := D4 l1 l2 l3 l4 ++ [(.inr (Str.ofString "restart"), .ref l5), (.inr (Str.ofString "settle"), .ref l6)]
theorem put_new {kvs : List (Key × L2.V)} {k : Key} {v : L2.V} (ks : List Key) (e : kvs.map (·.1) = ks) (h : ks.any (fun x => decide (x = k)) = false) : putK kvs k v = kvs ++ [(k, v)] := by
  unfold putK
  rw [← e, List.any_map] at h
  exact if_neg (by
    have e : (kvs.any fun kv => decide (kv.1 = k)) = false := h
    rw [e]
    decide)
theorem merge4 (l1 l2 l3 l4 : Addr) : mergeK [] (D4 l1 l2 l3 l4) = D4 l1 l2 l3 l4 := by
  have p2 : putK [((.inr (Str.ofString "open") : Key), L2.V.ref l1)] (.inr (Str.ofString "close")) (.ref l2) = [(.inr (Str.ofString "open"), .ref l1), (.inr (Str.ofString "close"), .ref l2)] := put_new [.inr (Str.ofString "open")] rfl (by decide +kernel)
  have p3 : putK [((.inr (Str.ofString "open") : Key), L2.V.ref l1), (.inr (Str.ofString "close"), .ref l2)] (.inr (Str.ofString "move")) (.ref l3) = [(.inr (Str.ofString "open"), .ref l1), (.inr (Str.ofString "close"), .ref l2), (.inr (Str.ofString "move"), .ref l3)] := put_new [.inr (Str.ofString "open"), .inr (Str.ofString "close")] rfl (by decide +kernel)
  have p4 : putK [((.inr (Str.ofString "open") : Key), L2.V.ref l1), (.inr (Str.ofString "close"), .ref l2), (.inr (Str.ofString "move"), .ref l3)] (.inr (Str.ofString "book")) (.ref l4) = D4 l1 l2 l3 l4 := put_new [.inr (Str.ofString "open"), .inr (Str.ofString "close"), .inr (Str.ofString "move")] rfl (by decide +kernel)
  show putK (putK (putK [((.inr (Str.ofString "open") : Key), L2.V.ref l1)] (.inr (Str.ofString "close")) (.ref l2)) (.inr (Str.ofString "move")) (.ref l3)) (.inr (Str.ofString "book")) (.ref l4) = _
  rw [p2, p3, p4]
theorem put5 (l1 l2 l3 l4 l5 : Addr) : putK (D4 l1 l2 l3 l4) (.inr (Str.ofString "restart")) (.ref l5) = D4 l1 l2 l3 l4 ++ [(.inr (Str.ofString "restart"), .ref l5)] := put_new [.inr (Str.ofString "open"), .inr (Str.ofString "close"), .inr (Str.ofString "move"), .inr (Str.ofString "book")] rfl (by decide +kernel)
theorem put6 (l1 l2 l3 l4 l5 l6 : Addr) : putK (D4 l1 l2 l3 l4 ++ [(.inr (Str.ofString "restart"), .ref l5)]) (.inr (Str.ofString "settle")) (.ref l6) = D6 l1 l2 l3 l4 l5 l6 := put_new [.inr (Str.ofString "open"), .inr (Str.ofString "close"), .inr (Str.ofString "move"), .inr (Str.ofString "book"), .inr (Str.ofString "restart")] rfl (by decide +kernel)
theorem val_at {kvs : List (Key × L2.V)} {k : Key} {v : L2.V} (n : (kvs.map (·.1)).Nodup) (h : (k, v) ∈ kvs) : valV kvs k = some v := by
  unfold valV
  induction kvs with
  | nil => cases h
  | cons p r ih =>
    rw [List.find?_cons]
    rw [List.map_cons, List.nodup_cons] at n
    rcases List.mem_cons.mp h with e | h
    · rw [← e]
      simp
    · have : p.1 ≠ k := fun e => n.1 (by rw [e]; exact List.mem_map_of_mem (f := (·.1)) h)
      rw [decide_eq_false this]
      exact ih n.2 h
theorem val_none {kvs : List (Key × L2.V)} {k : Key} (h : k ∉ kvs.map (·.1)) : valV kvs k = none := by
  unfold valV
  rw [List.find?_eq_none.mpr fun p hp => by
    have : p.1 ≠ k := fun e => h (by rw [← e]; exact List.mem_map_of_mem hp)
    simp [this]]
  rfl
theorem keys6 (l1 l2 l3 l4 l5 l6 : Addr) : (D6 l1 l2 l3 l4 l5 l6).map (·.1) = six.map Sum.inr := rfl
theorem nodup6 : (six.map (Sum.inr : Str → Key)).Nodup := by decide +kernel
theorem six_none {x : Str} (h : sizesL.lookup x = none) : x ∉ six := fun m => by
  have a : ∀ y ∈ six, (sizesL.lookup y).isSome = true := by decide +kernel
  have := a x m
  rw [h] at this
  cases this
section
variable {P : Program} {w : World} {K : PySem.W.Frag} {mg : Str → Option Value} {base : Heap}
set_option maxHeartbeats 16000000 in
theorem ok_law_wrong_line (V : VF K mg) : FnOk P w K mg base CX0 2 V.fLQ V.dLQ ["_law_words"] (spWrong K) := by
  have G_law_is_right := ok_law_is_right (P := P) (w := w) (base := base) V
  refine V.F_law_wrong_line.ok sc_law_wrong_line (fun vs H Q E h => ?_) (fun cdv A outer s H vs Q E hr h => ?_)
  · obtain ⟨a, ws, rfl, _⟩ := h
    rfl
  · obtain ⟨a, ws, rfl, ha, ne, few, sm, k1, k2⟩ := h
    have hu := hu_of hr
    have T := V.t
    cases ws with
    | nil => exact absurd rfl ne
    | cons x r =>
    refine ⟨_, (pss_cons (ps_set (i := 1) sc_law_wrong_line.nd rfl (Or.inl rfl) (pe_disp (pps_cons pe_str (pe_lst (pa_cons pe_str (pa_cons pe_str pa_nil))) (pps_cons pe_str (pe_lst (pa_cons pe_str pa_nil)) (pps_cons pe_str (pe_lst (pa_cons pe_str pa_nil)) (pps_cons pe_str (pe_lst (pa_cons pe_str (pa_cons pe_str pa_nil))) pps_nil)))) (by rfl) (by rfl) (fun z => by cases z) (by decide)))
      (pss_cons (ps_asg (pe_tup (pa_cons (pe_lst (pa_cons pe_str pa_nil)) (pa_cons (pe_lst pa_nil) pa_nil))) (pg_tup rfl (pgs_cons (pg_sub (pv 1) pe_str (set_dict hu)) (pgs_cons (pg_sub (pv 1) pe_str (set_dict hu)) pgs_nil))))
      (pss_cons (ps_if (pt_cmp (pc_dnotin hu (pe_ix ix_list (pv 0) pe_int (fun _ _ => rfl)) (pv 1))) (pss_one (ps_ret pe_int)) pss_nil)
      (pss_cons (ps_set (i := 2) sc_law_wrong_line.nd rfl (Or.inl rfl) (pe_dget hu (pv 1) (pe_ix ix_list (pv 0) pe_int (fun _ _ => rfl)) (fun _ _ => rfl)))
      (pss_cons (ps_for PassesOwn.never rfl (pi_range1 rfl T.range (pa_cons (pe_callB call_lenL (by rfl) T.len (by decide +kernel) (pa_cons (pv 2) pa_nil)) pa_nil)) (pg_name (i := 3) sc_law_wrong_line.nd rfl (Or.inl rfl)) (pss_one (ps_if (PW.pt (pw_or (pt_cmpR op_eq (pe_op op_add (pv 3) pe_int) (pe_callB call_lenL (by rfl) T.len (by decide +kernel) (pa_cons (pv 0) pa_nil)) (nomark _)) (pw_or1 (pt_not (pt_val (pe_call G_law_is_right (hr.mono (by decide)) (by rfl) V.g_law_is_right V.F_law_is_right.kp V.b_law_is_right .nil pass0 (pa_cons (pe_ix ix_list (pv 2) (pv 3) (fun _ _ => rfl)) (pa_cons (pe_ix ix_list (pv 0) (pe_op op_add (pv 3) pe_int) (fun _ _ => rfl)) pa_nil)))))))) (pss_one (ps_ret (pe_op op_add (pv 3) pe_int))) pss_nil)))
      (pss_one (ps_ret (pe_ifExp (pt_cmpR op_eq (pe_callB call_lenL (by rfl) T.len (by decide +kernel) (pa_cons (pv 0) pa_nil)) (pe_op op_add (pe_callB call_lenL (by rfl) T.len (by decide +kernel) (pa_cons (pv 2) pa_nil)) pe_int) (nomark _)) pe_non (pe_op op_add (pe_callB call_lenL (by rfl) T.len (by decide +kernel) (pa_cons (pv 2) pa_nil)) pe_int))))))))), ?_⟩
    try dsimp only [cxOf]
    rw [show L2.start N_law_wrong_line [.ref a] = [some (.ref a), none, none, none] from rfl]
    walk_at "hgo"
    intro p hp
    refine g_pairs ?_
    walk_at "hx"
    intro l1 hl1
    walk_at "hx"
    refine g_pairs ?_
    walk_at "hx"
    intro l2 hl2
    walk_at "hx"
    refine g_pairs ?_
    walk_at "hx"
    intro l3 hl3
    walk_at "hx"
    refine g_pairs ?_
    walk_at "hx"
    intro l4 hl4
    walk_at "hx"
    have sq : Same H (upd (upd (upd (upd (upd H p (.dK [])) l1 (.lst [L2.V.str nameS, L2.V.str nameS])) l2 (.lst [L2.V.str numberS])) l3 (.lst [L2.V.str nameS])) l4 (.lst [L2.V.str nameS, L2.V.str nameS])) := same_trans (same_trans (same_trans (same_trans (same_new hp) (same_new hl1)) (same_new hl2)) (same_new hl3)) (same_new hl4)
    have fp : (upd (upd (upd (upd (upd H p (.dK [])) l1 (.lst [L2.V.str nameS, L2.V.str nameS])) l2 (.lst [L2.V.str numberS])) l3 (.lst [L2.V.str nameS])) l4 (.lst [L2.V.str nameS, L2.V.str nameS])) p = some (.dK []) := same_new hl4 _ _ (same_new hl3 _ _ (same_new hl2 _ _ (same_new hl1 _ _ upd_same)))
    have f1 : (upd (upd (upd (upd (upd H p (.dK [])) l1 (.lst [L2.V.str nameS, L2.V.str nameS])) l2 (.lst [L2.V.str numberS])) l3 (.lst [L2.V.str nameS])) l4 (.lst [L2.V.str nameS, L2.V.str nameS])) l1 = some (.lst [L2.V.str nameS, L2.V.str nameS]) := same_new hl4 _ _ (same_new hl3 _ _ (same_new hl2 _ _ upd_same))
    have f2 : (upd (upd (upd (upd (upd H p (.dK [])) l1 (.lst [L2.V.str nameS, L2.V.str nameS])) l2 (.lst [L2.V.str numberS])) l3 (.lst [L2.V.str nameS])) l4 (.lst [L2.V.str nameS, L2.V.str nameS])) l2 = some (.lst [L2.V.str numberS]) := same_new hl4 _ _ (same_new hl3 _ _ upd_same)
    have f3 : (upd (upd (upd (upd (upd H p (.dK [])) l1 (.lst [L2.V.str nameS, L2.V.str nameS])) l2 (.lst [L2.V.str numberS])) l3 (.lst [L2.V.str nameS])) l4 (.lst [L2.V.str nameS, L2.V.str nameS])) l3 = some (.lst [L2.V.str nameS]) := same_new hl4 _ _ upd_same
    have f4 : (upd (upd (upd (upd (upd H p (.dK [])) l1 (.lst [L2.V.str nameS, L2.V.str nameS])) l2 (.lst [L2.V.str numberS])) l3 (.lst [L2.V.str nameS])) l4 (.lst [L2.V.str nameS, L2.V.str nameS])) l4 = some (.lst [L2.V.str nameS, L2.V.str nameS]) := upd_same
    refine ⟨fp, D4 l1 l2 l3 l4, rfl, (show 4 ≤ 15 by decide), ?_⟩
    rw [merge4]
    change gName 1 (.ref p) [some (.ref a), none, none, none] (upd (upd (upd (upd (upd (upd H p (.dK [])) l1 (.lst [L2.V.str nameS, L2.V.str nameS])) l2 (.lst [L2.V.str numberS])) l3 (.lst [L2.V.str nameS])) l4 (.lst [L2.V.str nameS, L2.V.str nameS])) p (.dK (D4 l1 l2 l3 l4))) _
    generalize upd (upd (upd (upd (upd H p (.dK [])) l1 (.lst [L2.V.str nameS, L2.V.str nameS])) l2 (.lst [L2.V.str numberS])) l3 (.lst [L2.V.str nameS])) l4 (.lst [L2.V.str nameS, L2.V.str nameS]) = H1 at sq fp f1 f2 f3 f4 ⊢
    have sq2 : Same H (upd H1 p (.dK (D4 l1 l2 l3 l4))) := same_past sq hp
    have past : ∀ {b : Addr} {xs : List L2.V}, H1 b = some (.lst xs) → upd H1 p (.dK (D4 l1 l2 l3 l4)) b = some (.lst xs) := fun {b xs} e => by
      rw [upd_ne (fun z => by rw [z, fp] at e; cases e)]
      exact e
    replace f1 := past f1
    replace f2 := past f2
    replace f3 := past f3
    replace f4 := past f4
    have fd : upd H1 p (.dK (D4 l1 l2 l3 l4)) p = some (.dK (D4 l1 l2 l3 l4)) := upd_same
    generalize upd H1 p (.dK (D4 l1 l2 l3 l4)) = H2 at sq2 f1 f2 f3 f4 fd ⊢
    clear hl1 hl2 hl3 hl4 past sq fp
    walk_at "hgo"
    intro l5 hl5
    walk_at "hgo"
    intro l6 hl6
    walk_at "hgo"
    intro tp htp
    have s5 : Same H2 (upd (upd (upd H2 l5 (.lst [L2.V.str nameS])) l6 (.lst [])) tp (.tup [L2.V.ref l5, L2.V.ref l6])) := same_trans (same_trans (same_new hl5) (same_new hl6)) (same_new htp)
    have f5 : upd (upd (upd H2 l5 (.lst [L2.V.str nameS])) l6 (.lst [])) tp (.tup [L2.V.ref l5, L2.V.ref l6]) l5 = some (.lst [L2.V.str nameS]) := same_new htp _ _ (same_new hl6 _ _ upd_same)
    have f6 : upd (upd (upd H2 l5 (.lst [L2.V.str nameS])) l6 (.lst [])) tp (.tup [L2.V.ref l5, L2.V.ref l6]) l6 = some (.lst []) := same_new htp _ _ upd_same
    have ft : upd (upd (upd H2 l5 (.lst [L2.V.str nameS])) l6 (.lst [])) tp (.tup [L2.V.ref l5, L2.V.ref l6]) tp = some (.tup [L2.V.ref l5, L2.V.ref l6]) := upd_same
    change gTup K 2 _ (L2.V.ref tp) _ (upd (upd (upd H2 l5 (.lst [L2.V.str nameS])) l6 (.lst [])) tp (.tup [L2.V.ref l5, L2.V.ref l6])) _
    generalize upd (upd (upd H2 l5 (.lst [L2.V.str nameS])) l6 (.lst [])) tp (.tup [L2.V.ref l5, L2.V.ref l6]) = H3 at s5 f5 f6 ft ⊢
    replace f1 := s5 _ _ f1
    replace f2 := s5 _ _ f2
    replace f3 := s5 _ _ f3
    replace f4 := s5 _ _ f4
    replace fd := s5 _ _ fd
    have sq3 := same_trans sq2 s5
    clear hl5 hl6 htp s5 sq2
    refine ⟨tp, _, rfl, SqT.of ft, rfl, ?_⟩
    refine ⟨_, _, rfl, ?_⟩
    refine g_sub ?_
    walk_at "hx"
    refine ⟨p, _, rfl, .inl ⟨_, .inr (Str.ofString "restart"), fd, rfl, (show 4 < sizeLine by decide), rfl⟩, ?_⟩
    rw [put5]
    refine ⟨_, _, rfl, ?_⟩
    refine g_sub ?_
    walk_at "hx"
    refine ⟨p, _, rfl, .inl ⟨_, .inr (Str.ofString "settle"), upd_same, rfl, (show 5 < sizeLine by decide), rfl⟩, ?_⟩
    rw [put6]
    refine ⟨rfl, ?_⟩
    have past : ∀ {b : Addr} {xs : List L2.V}, H3 b = some (.lst xs) → upd (upd H3 p (.dK (D4 l1 l2 l3 l4 ++ [(.inr (Str.ofString "restart"), .ref l5)]))) p (.dK (D6 l1 l2 l3 l4 l5 l6)) b = some (.lst xs) := fun {b xs} e => by
      have n : b ≠ p := fun z => by rw [z, fd] at e; cases e
      rw [upd_ne n, upd_ne n]
      exact e
    replace f1 := past f1
    replace f2 := past f2
    replace f3 := past f3
    replace f4 := past f4
    replace f5 := past f5
    replace f6 := past f6
    have sq4 : Same H (upd (upd H3 p (.dK (D4 l1 l2 l3 l4 ++ [(.inr (Str.ofString "restart"), .ref l5)]))) p (.dK (D6 l1 l2 l3 l4 l5 l6))) := same_past (same_past sq3 hp) hp
    have fd6 : upd (upd H3 p (.dK (D4 l1 l2 l3 l4 ++ [(.inr (Str.ofString "restart"), .ref l5)]))) p (.dK (D6 l1 l2 l3 l4 l5 l6)) p = some (.dK (D6 l1 l2 l3 l4 l5 l6)) := upd_same
    generalize upd (upd H3 p (.dK (D4 l1 l2 l3 l4 ++ [(.inr (Str.ofString "restart"), .ref l5)]))) p (.dK (D6 l1 l2 l3 l4 l5 l6)) = H4 at f1 f2 f3 f4 f5 f6 sq4 fd6 ⊢
    clear past fd ft sq3
    have fa := sq4 _ _ ha
    walk_at "hgo"
    refine g_dnin ?_
    walk_at "hgo"
    refine g_ixL (i := ((0 : Nat) : Int)) (SqL.of fa) (atI_nat (show ((x :: r).map L2.V.str)[0]? = some (.str x) from rfl)) ?_
    walk_at "hgo"
    refine ⟨p, valV (D6 l1 l2 l3 l4 l5 l6) (.inr x), rfl, .inl ⟨_, .inr x, .inl fd6, rfl, rfl⟩, ?_⟩
    cases e : sizesL.lookup x with
    | none =>
      have kn : valV (D6 l1 l2 l3 l4 l5 l6) (.inr x) = none := val_none fun m => by
        rw [keys6] at m
        obtain ⟨y, hy, ey⟩ := List.mem_map.mp m
        exact six_none e (by rw [← Sum.inr.inj ey]; exact hy)
      rw [kn]
      refine ⟨_, rfl, ?_⟩
      refine g_true rfl ?_
      walk_at "hgo"
      exact k2 0 H4 (due_none e) sq4
    | some n =>
      have nd : ((D6 l1 l2 l3 l4 l5 l6).map (·.1)).Nodup := by rw [keys6]; exact nodup6
      obtain ⟨l, ss, hv, hl, sa⟩ : ∃ (l : Addr) (ss : List Str), valV (D6 l1 l2 l3 l4 l5 l6) (.inr x) = some (.ref l) ∧ H4 l = some (.lst (ss.map L2.V.str)) ∧ SortsAt x ss := by
        rcases size_cases e with ⟨rfl, rfl⟩ | ⟨rfl, rfl⟩ | ⟨rfl, rfl⟩ | ⟨rfl, rfl⟩ | ⟨rfl, rfl⟩ | ⟨rfl, rfl⟩
        · exact ⟨l1, [nameS, nameS], val_at nd (List.mem_append_left _ List.mem_cons_self), f1, e, by decide, .inr ⟨by decide +kernel, by simp⟩⟩
        · exact ⟨l2, [numberS], val_at nd (List.mem_append_left _ (List.mem_cons_of_mem _ List.mem_cons_self)), f2, e, by decide, .inl ⟨rfl, rfl⟩⟩
        · exact ⟨l3, [nameS], val_at nd (List.mem_append_left _ (List.mem_cons_of_mem _ (List.mem_cons_of_mem _ List.mem_cons_self))), f3, e, by decide, .inr ⟨by decide +kernel, by simp⟩⟩
        · exact ⟨l4, [nameS, nameS], val_at nd (List.mem_append_left _ (List.mem_cons_of_mem _ (List.mem_cons_of_mem _ (List.mem_cons_of_mem _ List.mem_cons_self)))), f4, e, by decide, .inr ⟨by decide +kernel, by simp⟩⟩
        · exact ⟨l5, [nameS], val_at nd (List.mem_append_right _ List.mem_cons_self), f5, e, by decide, .inr ⟨by decide +kernel, by simp⟩⟩
        · exact ⟨l6, [], val_at nd (List.mem_append_right _ (List.mem_cons_of_mem _ List.mem_cons_self)), f6, e, by decide, .inr ⟨by decide +kernel, by simp⟩⟩
      clear f1 f2 f3 f4 f5 f6 nd
      have st := sa.two
      rw [hv]
      refine ⟨_, rfl, ?_⟩
      refine g_false rfl ?_
      walk_at "hgo"
      refine g_dget ?_
      walk_at "hgo"
      refine g_ixL (i := ((0 : Nat) : Int)) (SqL.of fa) (atI_nat (show ((x :: r).map L2.V.str)[0]? = some (.str x) from rfl)) ?_
      walk_at "hgo"
      refine ⟨p, .ref l, rfl, .inl ⟨_, .inr x, .inl fd6, rfl, hv.symm⟩, ?_⟩
      walk_at "hgo"
      refine g_rng (by rw [List.length_map]; omega) (by rw [List.length_map]; omega) ?_
      rw [show (((ss.map L2.V.str).length : Nat) : Int).toNat = ss.length by rw [List.length_map]; omega]
      refine for_range (n := ss.length) (fun j σ' H' => (∃ y3, σ' = [some (.ref a), some (.ref p), some (.ref l), y3]) ∧ Same H4 H' ∧ ∀ i < j, chk ss (x :: r) i = true) ⟨⟨none, rfl⟩, Same.refl _, fun _ h => absurd h (Nat.not_lt_zero _)⟩ ?_ ?_
      · rintro j σ' H5 hj ⟨⟨y3, rfl⟩, s5, al⟩
        rw [show (0 : Int) + (j : Int) = (j : Int) by omega]
        have fa5 := s5 _ _ fa
        have fl5 := s5 _ _ hl
        obtain ⟨s0, hs0⟩ : ∃ s0, ss[j]? = some s0 := ⟨_, List.getElem?_eq_getElem hj⟩
        walk_at "hgo"
        by_cases c : j + 1 = (x :: r).length
        · refine g_true (by rw [List.length_map, ← c]; simp) ?_
          walk_at "hgo"
          have cf : chk ss (x :: r) j = false := by
            unfold chk
            rw [List.getElem?_eq_none (l := x :: r) (i := j + 1) (by omega), hs0]
          exact k2 (j + 1) H5 (due_wrong sa hj al cf) (same_trans sq4 s5)
        · refine g_false (by rw [List.length_map]; simp only [decide_eq_false_iff_not, L2.V.int.injEq]; omega) ?_
          walk_at "hgo"
          refine g_ixL (SqL.of fl5) (atI_nat (show (ss.map L2.V.str)[j]? = some (.str s0) by rw [List.getElem?_map, hs0]; rfl)) ?_
          walk_at "hgo"
          have jl : j + 1 < (x :: r).length := by
            have le : j + 1 ≤ (x :: r).length := by
              cases j with
              | zero => rw [List.length_cons]; omega
              | succ i =>
                have z := al i (Nat.lt_succ_self i)
                unfold chk at z
                cases q : (x :: r)[i + 1]? with
                | none => rw [q] at z; cases hz : ss[i]? <;> rw [hz] at z <;> cases z
                | some y =>
                  obtain ⟨q2, _⟩ := List.getElem?_eq_some_iff.mp q
                  exact q2
            omega
          obtain ⟨y, hy⟩ : ∃ y, (x :: r)[j + 1]? = some y := ⟨_, List.getElem?_eq_getElem jl⟩
          have sy := sm y (List.mem_of_getElem? hy)
          rw [show (j : Int) + 1 = ((j + 1 : Nat) : Int) by omega]
          refine g_ixL (SqL.of fa5) (atI_nat (show ((x :: r).map L2.V.str)[j + 1]? = some (.str y) by rw [List.getElem?_map, hy]; rfl)) ?_
          walk_at "hgo"
          refine ⟨s0, y, rfl, by have := sy.1; omega, sy.2, fun H6 s6 => ?_⟩
          have cj : chk ss (x :: r) j = rightB s0 y := by
            unfold chk
            rw [hs0, hy]
          refine ⟨_, rfl, ?_⟩
          cases rb : rightB s0 y with
          | true =>
            refine g_false rfl ?_
            walk_at "hgo"
            refine ⟨⟨_, rfl⟩, same_trans s5 s6, fun i hi => ?_⟩
            rcases Nat.lt_or_ge i j with w | w
            · exact al i w
            · have : i = j := by omega
              rw [this, cj, rb]
          | false =>
            refine g_true rfl ?_
            walk_at "hgo"
            exact k2 (j + 1) H6 (due_wrong sa hj al (by rw [cj, rb])) (same_trans sq4 (same_trans s5 s6))
      · rintro σ' H5 ⟨⟨y3, rfl⟩, s5, al⟩
        have fa5 := s5 _ _ fa
        have fl5 := s5 _ _ hl
        walk_at "hgo"
        rw [List.length_map, List.length_map, List.length_cons]
        rcases due_right sa al with ⟨z, d, du⟩ | ⟨z, du⟩
        · refine g_true (by rw [z]; simp) ?_
          walk_at "hgo"
          exact k1 d H5 du (same_trans sq4 s5)
        · refine g_false (by simp only [decide_eq_false_iff_not, L2.V.int.injEq]; omega) ?_
          walk_at "hgo"
          rw [List.length_map]
          exact k2 (ss.length + 1) H5 du (same_trans sq4 s5)
end

def spLDue : Sp := fun vs H Q _ => ∃ t, vs = [.str t] ∧ t.length ≤ 2000 ∧ Fit t ∧ (∀ (ds : List Deed) (p : Addr) (H' : Hp), due t = .inr ds → H p = none → Same H H' → RowL H' p ds → Q (.ref p) H') ∧
  ∀ (i j : Nat) (p : Addr) (H' : Hp), due t = .inl (i, j) → H p = none → Same H H' → H' p = some (.tup [.int (i : Nat), .int (j : Nat)]) → Q (.ref p) H'
theorem due_inr {x : Str} {r : List Str} {d : Deed} (h : dueL (x :: r) = .inr d) : (x = closeS ∧ ∃ y, r = [y] ∧ num6 y = true ∧ d = [.inl x, .inr (numN y)]) ∨ (x ≠ closeS ∧ d = (x :: r).map .inl) := by
  cases e : sizesL.lookup x with
  | none => rw [due_none e] at h; cases h
  | some n =>
    by_cases z : x = closeS
    · rw [due_close z] at h
      rcases dueC_cases (w := x) (r := r) with ⟨q, _⟩ | ⟨y, r', rfl, hn, ⟨rfl, q⟩ | ⟨_, q⟩⟩
      · rw [q] at h; cases h
      · rw [q] at h
        exact .inl ⟨z, y, rfl, hn, (Sum.inr.inj h).symm⟩
      · rw [q] at h; cases h
    · rw [due_names e z] at h
      cases b : bad (x :: r) (n.toNat - 1) with
      | some j => rw [dueN_bad b] at h; cases h
      | none =>
        rw [dueN_ok b] at h
        split at h
        · exact .inr ⟨z, (Sum.inr.inj h).symm⟩
        · cases h
theorem g_par {i j : Nat} {ta : TA} {D : Ends} {σ : L2.St} {H : Hp} (h : ta σ H fun vs H1 => ∃ v w, vs = [v, w] ∧ D.nx ((σ.set i (some v)).set j (some w)) H1) : tPar i j ta D σ H := h
section
variable {P : Program} {w : World} {K : PySem.W.Frag} {mg : Str → Option Value} {base : Heap}
set_option maxHeartbeats 16000000 in
theorem ok_law_due (V : VF K mg) : FnOk P w K mg base CX0 3 V.fLU V.dLU ["_law_page"] spLDue := by
  have G_law_wrong_line := ok_law_wrong_line (P := P) (w := w) (base := base) V
  refine V.F_law_due.ok sc_law_due (fun vs H Q E h => ?_) (fun cdv A outer s H vs Q E hr h => ?_)
  · obtain ⟨t, rfl, _⟩ := h
    rfl
  · obtain ⟨t, rfl, ht, fit, k1, k2⟩ := h
    have hu := hu_of hr
    have T := V.t
    refine ⟨_, (pss_cons (ps_par (i := 1) (j := 2) (by rfl) sc_law_due.nd rfl rfl (by decide) rfl rfl (pa_cons (pe_lst pa_nil) (pa_cons (pe_ifExp (pt_cmpR op_ne (pv 0) pe_str (nomark _)) (pe_bm PySem.F.plainAttrs_str PySem.F.slot_str_split PySem.F.type_str_split mt_split (pv 0) (pa_cons pe_str pa_nil)) (pe_lst pa_nil)) pa_nil)) (by rfl))
      (pss_cons (ps_for PassesOwn.never rfl (pi_range1 rfl T.range (pa_cons (pe_callB call_lenL (by rfl) T.len (by decide +kernel) (pa_cons (pv 2) pa_nil)) pa_nil)) (pg_name (i := 3) sc_law_due.nd rfl (Or.inl rfl)) (pss_cons (ps_set (i := 4) sc_law_due.nd rfl (Or.inl rfl) (pe_bm PySem.F.plainAttrs_str PySem.F.slot_str_split PySem.F.type_str_split mt_split (pe_ix ix_list (pv 2) (pv 3) (fun _ _ => rfl)) (pa_cons pe_str pa_nil)))
      (pss_cons (ps_set (i := 5) sc_law_due.nd rfl (Or.inl rfl) (pe_call G_law_wrong_line (hr.mono (by decide)) (by rfl) V.g_law_wrong_line V.F_law_wrong_line.kp V.b_law_wrong_line .nil pass0 (pa_cons (pv 4) pa_nil)))
      (pss_cons (ps_if (pt_cmpR op_notN (pv 5) pe_non (nomark _)) (pss_one (ps_ret (pe_tup (pa_cons (pv 3) (pa_cons (pv 5) pa_nil))))) pss_nil)
      (pss_one (ps_expr (pe_bm PySem.F.plainAttrs_list PySem.F.slot_list_append PySem.F.type_list_append mt_append (pv 1) (pa_cons (pe_ifExp (pt_cmpR op_eq (pe_ix ix_list (pv 4) pe_int (fun _ _ => rfl)) pe_str (nomark _)) (pe_tup (pa_cons (pe_ix ix_list (pv 4) pe_int (fun _ _ => rfl)) (pa_cons (pe_callTy call_int_str (by rfl) T.int (by decide +kernel) (pa_cons (pe_ix ix_list (pv 4) pe_int (fun _ _ => rfl)) pa_nil)) pa_nil))) (pe_callTy call_tuple_of (by rfl) T.tuple (by decide +kernel) (pa_cons (pv 4) pa_nil))) pa_nil))))))))
      (pss_one (ps_ret (pv 1))))), ?_⟩
    try dsimp only [cxOf]
    rw [show L2.start N_law_due [.str t] = [some (.str t), none, none, none, none, none] from rfl]
    have ll := lines0_len ht
    have lm : ∀ x ∈ lines0 t, x.length ≤ 2000 ∧ Fit x := fun x hx => ⟨Nat.le_trans (lines0_mem hx) ht, lines0_fit fit hx⟩
    refine g_cut (fun σ' H' => ∃ F L : Addr, σ' = [some (.str t), some (.ref F), some (.ref L), none, none, none] ∧ H' F = some (.lst []) ∧ H' L = some (.lst ((lines0 t).map L2.V.str)) ∧ L ≠ F ∧ Same H H' ∧ H F = none) ?_ ?_
    · rintro σ' H1 ⟨F, L, rfl, hF, hL, nLF, s1, hF0⟩
      walk_at "hx"
      refine g_seq ?_
      walk_at "hx"
      refine g_rng (by rw [List.length_map]; omega) (by rw [List.length_map]; omega) ?_
      rw [show ((((lines0 t).map L2.V.str).length : Nat) : Int).toNat = (lines0 t).length by rw [List.length_map]; omega]
      refine for_range (n := (lines0 t).length) (fun i σ' H' => ∃ (ts : List Addr) (ds : List Deed), (∃ y3 y4 y5, σ' = [some (.str t), some (.ref F), some (.ref L), y3, y4, y5]) ∧ H' F = some (.lst (ts.map L2.V.ref)) ∧ Cells H' ts ds ∧ ds.length = i ∧ scanD (lines0 t) 0 [] = scanD ((lines0 t).drop i) i ds ∧ H' L = some (.lst ((lines0 t).map L2.V.str)) ∧ Same H H') ⟨[], [], ⟨none, none, none, rfl⟩, hF, .nil, rfl, rfl, hL, s1⟩ ?_ ?_
      · rintro i σ' H2 hi ⟨ts, ds, ⟨y3, y4, y5, rfl⟩, q1, q2, q3, q4, hL2, s2⟩
        obtain ⟨x, hx⟩ : ∃ x, (lines0 t)[i]? = some x := ⟨_, List.getElem?_eq_getElem hi⟩
        have sx := lm x (List.mem_of_getElem? hx)
        rw [show (0 : Int) + (i : Int) = (i : Int) by omega]
        walk_at "hx"
        refine g_seq ?_
        walk_at "hx"
        refine g_bm ?_
        walk_at "hx"
        refine g_ixL (SqL.of hL2) (atI_nat (show ((lines0 t).map L2.V.str)[i]? = some (.str x) by rw [List.getElem?_map, hx]; rfl)) ?_
        walk_at "hx"
        refine ⟨x, _, rfl, rfl, len1S, Nat.le_trans (show x.length + 2 ≤ 200000 by omega) (by decide), ?_⟩
        intro W hW
        rw [show Txt.split x (Str.ofString " ") = wordsOf x from rfl]
        have wn := words_ne x
        have wl : (wordsOf x).length ≤ 3000 := by
          rw [words_len]
          have := List.count_le_length (a := 32) (l := TL.tl x)
          rw [← TL.len_tl] at this
          omega
        have wm : ∀ y ∈ wordsOf x, y.length ≤ 2000 ∧ Fit y := fun y hy => ⟨by have := words_mem hy; omega, fit_words sx.2 hy⟩
        have s3 : Same H2 (upd H2 W (.lst ((wordsOf x).map L2.V.str))) := same_new hW
        have hw3 : upd H2 W (.lst ((wordsOf x).map L2.V.str)) W = some (.lst ((wordsOf x).map L2.V.str)) := upd_same
        generalize upd H2 W (.lst ((wordsOf x).map L2.V.str)) = H3 at s3 hw3 ⊢
        walk_at "hx"
        refine g_seq ?_
        walk_at "hx"
        refine ⟨W, wordsOf x, rfl, hw3, wn, wl, wm, fun d H4 du s4 => ?_, fun j H4 du s4 => ?_⟩
        · have s34 := same_trans s3 s4
          have hw4 := s4 _ _ hw3
          have q14 := s34 _ _ q1
          have q24 := q2.same s34
          walk_at "hx"
          refine g_seq ?_
          walk_at "hx"
          refine ⟨rfl, ?_⟩
          walk_at "hx"
          refine g_bm ?_
          walk_at "hx"
          refine ⟨.inl ⟨rfl, _, SqL.of q14⟩, ?_⟩
          have fin : ∀ (u : Addr) (H5 : Hp), Same H4 H5 → H5 u = some (.tup (d.map cv)) →
              upd H5 F (.lst (ts.map L2.V.ref ++ [L2.V.ref u])) F = some (.lst ((ts ++ [u]).map L2.V.ref)) ∧ Cells (upd H5 F (.lst (ts.map L2.V.ref ++ [L2.V.ref u]))) (ts ++ [u]) (ds ++ [d]) ∧ (ds ++ [d]).length = i + 1 ∧ scanD (lines0 t) 0 [] = scanD ((lines0 t).drop (i + 1)) (i + 1) (ds ++ [d]) ∧
              upd H5 F (.lst (ts.map L2.V.ref ++ [L2.V.ref u])) L = some (.lst ((lines0 t).map L2.V.str)) ∧ Same H (upd H5 F (.lst (ts.map L2.V.ref ++ [L2.V.ref u]))) := fun u H5 s5 hu5 => by
            refine ⟨by rw [upd_same, List.map_append]; rfl, Cells.past (s5 _ _ q14) ((q24.same s5).snoc hu5), by rw [List.length_append, q3]; rfl, scan_next hx q4 du, ?_, same_past (same_trans s2 (same_trans s34 s5)) hF0⟩
            rw [upd_ne nLF]
            exact s5 _ _ (s34 _ _ hL2)
          have tl : (ts.map L2.V.ref).length < sizeLine := by
            rw [List.length_map, q2.len, q3]
            exact Nat.lt_of_lt_of_le (show i < 3000 by omega) (by decide)
          cases hws : wordsOf x with
          | nil => exact absurd hws wn
          | cons x0 r0 =>
          rw [hws] at hw4 du
          have g0 : ((x0 :: r0).map L2.V.str)[0]? = some (.str x0) := rfl
          walk_at "hx"
          refine g_ixL (i := ((0 : Nat) : Int)) (SqL.of hw4) (atI_nat g0) ?_
          walk_at "hx"
          rcases due_inr du with ⟨z, y, rfl, hn, rfl⟩ | ⟨z, rfl⟩
          · refine g_true (by rw [z]; decide +kernel) ?_
            walk_at "hx"
            obtain ⟨n1, n2, n3, n4⟩ := num6_int hn
            refine ⟨y, numN y, rfl, n1, by omega, ?_⟩
            walk_at "hx"
            intro u hu
            obtain ⟨e1, e2, e3, e4, e5, e6⟩ := fin u _ (same_new hu) upd_same
            walk_at "hx"
            refine ⟨F, _, _, rfl, rfl, same_new hu _ _ q14, tl, ?_⟩
            walk_at "hx"
            exact ⟨_, _, ⟨_, _, _, rfl⟩, e1, e2, e3, e4, e5, e6⟩
          · refine g_false (by simp only [decide_eq_false_iff_not, L2.V.str.injEq]; exact z) ?_
            walk_at "hx"
            refine ⟨W, _, rfl, .inl ⟨SqL.of hw4, fun u hu => ?_⟩⟩
            obtain ⟨e1, e2, e3, e4, e5, e6⟩ := fin u _ (same_new hu) (by rw [inl_map]; exact upd_same)
            walk_at "hx"
            refine ⟨F, _, _, rfl, rfl, same_new hu _ _ q14, tl, ?_⟩
            walk_at "hx"
            exact ⟨_, _, ⟨_, _, _, rfl⟩, e1, e2, e3, e4, e5, e6⟩
        · walk_at "hx"
          refine g_seq ?_
          walk_at "hx"
          refine ⟨rfl, ?_⟩
          walk_at "hx"
          intro p hp
          walk_at "hx"
          have s24 := same_trans s2 (same_trans s3 s4)
          exact k2 i j p _ (scan_stop hx q4 du) (none_back s24 hp) (same_trans s24 (same_new hp)) upd_same
      · rintro σ' H2 ⟨ts, ds, ⟨y3, y4, y5, rfl⟩, q1, q2, q3, q4, hL2, s2⟩
        walk_at "hgo"
        exact k1 ds F H2 (scan_done q4) hF0 s2 ⟨ts, q1, q2⟩
    · intro R hR
      refine g_par ?_
      walk_at "hx"
      intro p hp
      walk_at "hx"
      have n1 : Same H (upd H p (.lst [])) := same_new hp
      by_cases e : t = Str.ofString ""
      · refine g_false (by simp [e]) ?_
        have l0 : lines0 t = [] := if_pos (e.trans emptyT)
        walk_at "hx"
        intro l hl
        walk_at "hx"
        refine ⟨_, _, rfl, ?_⟩
        refine hR _ _ ⟨p, l, rfl, same_new hl _ _ upd_same, by rw [l0]; exact upd_same, (fun z => by rw [z, upd_same] at hl; cases hl), same_trans n1 (same_new hl), hp⟩
      · refine g_true (by simp [e]) ?_
        have l0 : lines0 t = linesOf t := if_neg fun z => e (z.trans emptyT.symm)
        walk_at "hx"
        refine g_bm ?_
        walk_at "hx"
        refine ⟨t, _, rfl, rfl, len1N, Nat.le_trans (show t.length + 2 ≤ 200000 by omega) (by decide), ?_⟩
        intro l hl
        rw [show Txt.split t (Str.ofString "\n") = linesOf t from rfl]
        walk_at "hx"
        refine ⟨_, _, rfl, ?_⟩
        refine hR _ _ ⟨p, l, rfl, same_new hl _ _ upd_same, by rw [l0]; exact upd_same, (fun z => by rw [z, upd_same] at hl; cases hl), same_trans n1 (same_new hl), hp⟩
end

def spHeard (K : PySem.W.Frag) : Sp := fun vs H Q _ => ∃ v, vs = [v] ∧
  ((∃ t, v = .str t ∧ t.length ≤ 2000 ∧ (∀ (ds : List Deed) (p : Addr) (H' : Hp), due t = .inr ds → H p = none → Same H H' → RowL H' p ds → Q (.ref p) H') ∧
      ∀ (i j : Nat) (p : Addr) (H' : Hp), due t = .inl (i, j) → H p = none → Same H H' → H' p = some (.tup [.int (i : Nat), .int (j : Nat)]) → Q (.ref p) H') ∨
   (NotS K H v ∧ ∀ (p : Addr) (H' : Hp), H p = none → Same H H' → H' p = some (.tup [.int 0, .int 0]) → Q (.ref p) H'))
theorem fsT_line (i j : Int) : (fsT i j).lookup ("line" : Str) = some (.int i) := by
  have h1 : (("line" : Str) == ("word" : Str)) = false := by decide +kernel
  have h2 : (("line" : Str) == ("line" : Str)) = true := by decide +kernel
  unfold fsT
  rw [List.lookup_cons, h1, List.lookup_cons, h2]
theorem fsT_word (i j : Int) : (fsT i j).lookup ("word" : Str) = some (.int j) := by
  have h2 : (("word" : Str) == ("word" : Str)) = true := by decide +kernel
  unfold fsT
  rw [List.lookup_cons, h2]
theorem kept1_same {C a : Addr} {fs : List (Str × L2.V)} {H H' : Hp} (k : Kept1 C a fs H) (s : Same H H') : Kept1 C a fs H' := by
  obtain ⟨d, e1, e2⟩ := k
  exact ⟨d, s _ _ e1, s _ _ e2⟩
theorem g_callS {sp : Sp} {E : L2.St → XK} {t : TA} {σ : L2.St} {H : Hp} {Q : VK} (h : t σ H fun vs H1 => sp vs H1 Q (E σ)) : tCallS sp E t σ H Q := h
section
variable {P : Program} {w : World} {K : PySem.W.Frag} {mg : Str → Option Value} {base : Heap}
set_option maxHeartbeats 8000000 in
theorem ok_law_heard (V : VF K mg) (Z : SZ K w mg) : FnOk P w K mg base CX0 10 V.fLR V.dLR ["_law_value"] (spHeard K) := by
  have G_read_story := ok_read_story (P := P) (w := w) (base := base) V Z
  refine V.F_law_heard.ok sc_law_heard (fun vs H Q E h => ?_) (fun cdv A outer s H vs Q E hr h => ?_)
  · obtain ⟨v, rfl, _⟩ := h
    rfl
  · obtain ⟨v, rfl, h⟩ := h
    have T := V.t
    refine ⟨_, (pss_cons (ps_set (i := 1) sc_law_heard.nd rfl (Or.inl rfl) pe_non)
      (pss_cons (ps_try_keep (tb := fun W => tSeq (tAsg (tCallS (spReadStory K V.CT) (WE W) (tCons (tVar 0) tNil)) (gName 2)) (tRet (tIf (tB (tCB (rIsi K) (tCons (tVar 2) (tCons (tC (.ty "tuple")) tNil)))) (tCB (fun xs H Q => ∃ p ys, xs = [.ref p] ∧ (SqL K H p ys ∨ SqT K H p ys) ∧ ∀ l, H l = none → Q (.ref l) (upd H l (.lst ys))) (tCons (tVar 2) tNil)) (tC (.str "odd"))))) (ts := fun _ _ _ => tAsg (tVar 3) (gName 1)) (i := 3) (Wout := fun _ _ _ _ => False) rfl rfl rfl sc_law_heard.nd rfl rfl ⟨by rfl, by decide, Or.inl V.g_NetError⟩ ⟨by rfl, by decide, Or.inl V.g_MissingError⟩ takes0 (fun W pn xe tk _ => by exact (pss_cons (ps_set (i := 2) sc_law_heard.nd rfl (Or.inl rfl) (pe_callS G_read_story (hr.mono (by decide)) (by rfl) V.g_read_story V.F_read_story.kp V.b_read_story (fun σ => passAt tk σ) (by exact (pa_cons (pv 0) pa_nil))))
      (pss_one (ps_ret (pe_ifExp (pt_val (pe_callB call_isi (by rfl) T.isinstance (by decide +kernel) (pa_cons (pv 2) (pa_cons (pe_bltn (v := .ty "tuple") (u := .type "tuple") (by rfl) T.tuple (by decide +kernel) rfl) pa_nil)))) (pe_callTy call_list_of (by rfl) T.list (by decide +kernel) (pa_cons (pv 2) pa_nil)) pe_str))))) (fun a oe cls d pn hz hf => by exact (pss_one (ps_set (i := 1) sc_law_heard.nd rfl (Or.inl rfl) (pv 3)))))
      (pss_cons (ps_if (PW.pt (pw_or (pt_not (pt_val (pe_callB call_askC (by rfl) T.isinstance (by decide +kernel) (pa_cons (pv 1) (pa_cons (pe_glob (v := .ref V.CT) (by rfl) V.g_InvalidText rfl) pa_nil))))) (pw_or1 (pt_val (pe_callB call_askT (by rfl) T.isinstance (by decide +kernel) (pa_cons (pv 1) (pa_cons (pe_tup (pa_cons (pe_glob (v := .ref V.CD) (by rfl) V.g_InvalidDeed rfl) (pa_cons (pe_glob (v := .ref V.CM) (by rfl) V.g_MissingError rfl) pa_nil))) pa_nil))))))) (pss_one (ps_ret pe_str)) pss_nil)
      (pss_one (ps_ret (pe_tup (pa_cons (pe_fldC (pv 1)) (pa_cons (pe_fldC (pv 1)) pa_nil)))))))), ?_⟩
    try dsimp only [cxOf]
    rw [show L2.start N_law_heard [v] = [some v, none, none, none] from rfl]
    have caught : ∀ (i j : Nat) (a d : Addr) (H1 : Hp), Same H H1 → H1 d = some (.xd (fsT (i : Nat) (j : Nat))) → H1 a = none → (∀ (p : Addr) (H' : Hp), H p = none → Same H H' → H' p = some (.tup [.int (i : Nat), .int (j : Nat)]) → Q (.ref p) H') →
        tSeq (tIfS (tOr (tNot (tB (tCB (rAskC K) (tCons (tVar 1) (tCons (tC (.ref V.CT)) tNil))))) (tB (tCB (rAskT K) (tCons (tVar 1) (tCons (tTup (tCons (tC (.ref V.CD)) (tCons (tC (.ref V.CM)) tNil))) tNil))))) (tRet (tC (.str (Str.ofString "odd")))) tNext) (tRet (tTup (tCons (tFldC K "line" (tVar 1)) (tCons (tFldC K "word" (tVar 1)) tNil)))) { nx := fun _ H' => Q .non H', rt := Q } [some v, some (.ref a), none, none] (upd H1 a (Caught (.ref V.CT) (some d) a)) := fun i j a d H1 s1 e1 ha kk => by
      have nda : d ≠ a := ne_of_none e1 ha
      have kp : Kept1 V.CT a (fsT (i : Nat) (j : Nat)) (upd H1 a (Caught (.ref V.CT) (some d) a)) := ⟨d, upd_same, by rw [upd_ne nda]; exact e1⟩
      have s2 : Same H (upd H1 a (Caught (.ref V.CT) (some d) a)) := same_trans s1 (same_new ha)
      generalize upd H1 a (Caught (.ref V.CT) (some d) a) = H3 at kp s2 ⊢
      walk_at "hgo"
      refine ⟨a, V.CT, _, .ref V.CT, .ref V.CT, true, rfl, (fun u r => r), V.ask_T, kp, V.k_TT, ?_⟩
      walk_at "hgo"
      intro tp htp
      have s3 : Same H3 (upd H3 tp (.tup [.ref V.CD, .ref V.CM])) := same_new htp
      walk_at "hgo"
      refine ⟨a, tp, V.CT, _, [.ref V.CD, .ref V.CM], [.ref V.CD, .ref V.CM], false, rfl, upd_same, .cons (.own _) (.cons (.own _) .nil), V.ask_T, kept1_same kp s3, V.k_TD, ?_⟩
      have kp3 := kept1_same kp s3
      have s4 := same_trans s2 s3
      generalize upd H3 tp (.tup [.ref V.CD, .ref V.CM]) = H4 at kp3 s4 ⊢
      walk_at "hgo"
      refine g_fldC ?_
      walk_at "hgo"
      refine ⟨a, V.CT, _, .int (i : Nat), rfl, V.ask_T, V.n_line, kp3, fsT_line (i : Nat) (j : Nat), ?_⟩
      walk_at "hgo"
      refine g_fldC ?_
      walk_at "hgo"
      refine ⟨a, V.CT, _, .int (j : Nat), rfl, V.ask_T, V.n_word, kp3, fsT_word (i : Nat) (j : Nat), ?_⟩
      walk_at "hgo"
      intro p hp
      walk_at "hgo"
      exact kk p _ (none_back s4 hp) (same_trans s4 (same_new hp)) upd_same
    walk_at "hgo"
    refine g_callS ?_
    walk_at "hgo"
    refine ⟨v, rfl, ?_⟩
    rcases h with ⟨t, rfl, ht, k1, k2⟩ | ⟨hn, kk⟩
    · refine .inl ⟨t, rfl, ht, ?_, ?_⟩
      · intro ds p H1 du hp s1 row
        obtain ⟨ts, e1, cs⟩ := row
        walk_at "hgo"
        refine g_isi (n := "tuple") (.base (.tup e1)) (b := true) (by decide +kernel) ?_
        walk_at "hgo"
        refine ⟨p, _, rfl, .inr (SqT.of e1), fun l hl => ?_⟩
        walk_at "hgo"
        have s2 : Same H1 (upd H1 l (.lst (ts.map L2.V.ref))) := same_new hl
        exact k1 ds l _ du (none_back s1 hl) (same_trans s1 s2) ⟨ts, upd_same, cs.same s2⟩
      · intro i j du d H1 hd s1 e1
        refine ⟨true, V.ex_T, fun _ a ha => ?_, fun z => Bool.noConfusion z⟩
        show tAsg (tVar 3) (gName 1) _ _ _
        dsimp only [List.set]
        refine g_asg ?_
        refine g_var rfl ?_
        refine g_name ?_
        show H1 a = none → _
        intro ha2
        dsimp only [List.set]
        exact caught i j a d H1 s1 e1 ha fun p H' x y z => k2 i j p H' du x y z
    · refine .inr ⟨hn, fun d H1 hd s1 e1 => ?_⟩
      refine ⟨true, V.ex_T, fun _ a ha => ?_, fun z => Bool.noConfusion z⟩
      show tAsg (tVar 3) (gName 1) _ _ _
      dsimp only [List.set]
      refine g_asg ?_
      refine g_var rfl ?_
      refine g_name ?_
      show H1 a = none → _
      intro ha2
      dsimp only [List.set]
      exact caught 0 0 a d H1 s1 e1 ha kk
end

/-! pages bent -/
def cutT (xs : List Str) (lo hi : Option Int) : List Str := (xs.drop (HT.sIx xs.length 0 lo)).take (HT.sIx xs.length xs.length hi - HT.sIx xs.length 0 lo)
theorem cut_map (xs : List Str) (lo hi : Option Int) : cutV (xs.map L2.V.str) lo hi = (cutT xs lo hi).map L2.V.str := by
  unfold cutV cutT
  rw [List.length_map, List.map_take, List.map_drop]
theorem cut_take {xs : List Str} {j : Nat} (h : j ≤ xs.length) : cutT xs none (some (j : Int)) = xs.take j := by
  unfold cutT
  show (xs.drop 0).take (min j xs.length - 0) = _
  rw [List.drop_zero, Nat.sub_zero, Nat.min_eq_left h]
theorem cut_drop {xs : List Str} {j : Nat} (h : j ≤ xs.length) : cutT xs (some (j : Int)) none = xs.drop j := by
  unfold cutT
  show (xs.drop (min j xs.length)).take (xs.length - min j xs.length) = _
  rw [Nat.min_eq_left h]
  exact List.take_of_length_le (by rw [List.length_drop]; exact Nat.le_refl _)
section
variable {K : PySem.W.Frag} {H : Hp} {Q : VK}
theorem g_slT {p : Addr} {xs : List Str} {lo hi : Option Int} (h : H p = some (.lst (xs.map L2.V.str))) (q : ∀ (r : Addr) (H' : Hp), H r = none → Same H H' → H' r = some (.lst ((cutT xs lo hi).map L2.V.str)) → Q (.ref r) H') : rSlL K (.ref p) lo hi H Q :=
  g_slL (SqL.of h) fun r hr => q r _ hr (same_new hr) (by rw [upd_same, cut_map])
theorem g_take {p : Addr} {xs : List Str} {j : Nat} (hj : j ≤ xs.length) (h : H p = some (.lst (xs.map L2.V.str))) (q : ∀ (r : Addr) (H' : Hp), H r = none → Same H H' → H' r = some (.lst ((xs.take j).map L2.V.str)) → Q (.ref r) H') : rSlL K (.ref p) none (some (j : Int)) H Q :=
  g_slT h fun r H' a b c => q r H' a b (by rw [← cut_take hj]; exact c)
theorem g_drop' {p : Addr} {xs : List Str} {j : Nat} (hj : j ≤ xs.length) (h : H p = some (.lst (xs.map L2.V.str))) (q : ∀ (r : Addr) (H' : Hp), H r = none → Same H H' → H' r = some (.lst ((xs.drop j).map L2.V.str)) → Q (.ref r) H') : rSlL K (.ref p) (some (j : Int)) none H Q :=
  g_slT h fun r H' a b c => q r H' a b (by rw [← cut_drop hj]; exact c)
theorem g_catT {l b : Addr} {xs zs : List Str} (h : H l = some (.lst (xs.map L2.V.str))) (h2 : H b = some (.lst (zs.map L2.V.str))) (z : xs.length + zs.length ≤ 100000) (q : ∀ (p : Addr) (H' : Hp), H p = none → Same H H' → H' p = some (.lst ((xs ++ zs).map L2.V.str)) → Q (.ref p) H') : rCat (.ref l) (.ref b) H Q :=
  g_cat h h2 (by rw [List.length_map, List.length_map]; exact small_of (by omega)) fun p hp => q p _ hp (same_new hp) (by rw [upd_same, List.map_append])
theorem g_one {s : Str} {W : Addr → Hp → Prop} (q : ∀ (p : Addr) (H' : Hp), H p = none → Same H H' → H' p = some (.lst ([s].map L2.V.str)) → W p H') : ∀ p, H p = none → W p (upd H p (.lst [L2.V.str s])) := fun p hp => q p _ hp (same_new hp) upd_same
theorem g_refs {xs : List L2.V} {W : Addr → Hp → Prop} (q : ∀ (p : Addr) (H' : Hp), H p = none → Same H H' → H' p = some (.lst xs) → W p H') : ∀ p, H p = none → W p (upd H p (.lst xs)) := fun p hp => q p _ hp (same_new hp) upd_same
theorem g_catR {l b : Addr} {xs zs : List L2.V} (h : H l = some (.lst xs)) (h2 : H b = some (.lst zs)) (z : xs.length + zs.length ≤ 100000) (q : ∀ (p : Addr) (H' : Hp), H p = none → Same H H' → H' p = some (.lst (xs ++ zs)) → Q (.ref p) H') : rCat (.ref l) (.ref b) H Q :=
  g_cat h h2 (small_of (by omega)) fun p hp => q p _ hp (same_new hp) upd_same
end
theorem Led.same {q : Addr} {b : Nat} {H H1 H2 : Hp} (l : Led q b H H1) (s : Same H1 H2) : Led q b H H2 := ⟨l.pen.same s, l.but.trans (.of s)⟩
/-- a line that was bent n times at most -/
structure LineOk (n : Nat) (x : Str) : Prop where
  len : x.length ≤ 30 + 20 * n
  fit : Fit x
theorem LineOk.more {n : Nat} {x : Str} (h : LineOk n x) : LineOk (n + 1) x := ⟨by have := h.len; omega, h.fit⟩
def odds1 : List Str := [Str.ofString "", Str.ofString "open", Str.ofString "close", Str.ofString "move", Str.ofString "book", Str.ofString "restart", Str.ofString "settle", Str.ofString "a", Str.ofString "0", Str.ofString "01", Str.ofString "-1", Str.ofString "-0", Str.ofString "1000000", Str.ofString "1_0"]
def odds2 : List Str := [Str.ofString "999999", Str.ofString "A", Str.ofString "abcdefghi", Str.ofString "self", Str.ofString "1.0", Str.ofString "+1", Str.ofString "opens"]
def odds3 : List Str := [Str.ofString "Open", Str.ofString "close 1", Str.ofString "settle "]
def oddB (w : Str) : Bool := decide (w.length ≤ 10) && (TL.tl w).all fun c => decide (c < 128)
theorem odds_ok : ∀ w ∈ odds1 ++ odds2 ++ odds3, oddB w = true := by decide +kernel
theorem odd_len10 {w : Str} (h : oddB w = true) : w.length ≤ 10 := by
  unfold oddB at h
  simp only [Bool.and_eq_true, decide_eq_true_eq] at h
  exact h.1
theorem odd_fit {w : Str} (h : oddB w = true) : Fit w := by
  unfold oddB at h
  simp only [Bool.and_eq_true, List.all_eq_true, decide_eq_true_eq] at h
  exact h.2
theorem odd_line {w : Str} (h : oddB w = true) (n : Nat) : LineOk n w := ⟨by have := odd_len10 h; omega, odd_fit h⟩
/-- words of a bent line -/
structure WordsB (x odd : Str) (ws : List Str) : Prop where
  sum : (ws.map (·.length)).sum ≤ ((wordsOf x).map (·.length)).sum + odd.length
  len : ws.length ≤ (wordsOf x).length + 1
  mem : ∀ y ∈ ws, y ∈ wordsOf x ∨ y = odd
theorem bent_line {n : Nat} {x odd : Str} {ws : List Str} (h : LineOk n x) (ho : oddB odd = true) (g : WordsB x odd ws) : LineOk (n + 1) (joinW (Str.ofString " ") ws) := by
  refine ⟨?_, joinW_fit space_tl (by decide) fun y hy => ?_⟩
  · have a := joinW_len space_tl ws
    have b := words_sum x
    have c := g.sum
    have d := g.len
    have e := odd_len10 ho
    have f := h.len
    omega
  · rcases g.mem y hy with z | z
    · exact fit_words h.fit z
    · rw [z]; exact odd_fit ho
theorem bent_size {n : Nat} {x odd : Str} {ws : List Str} (h : LineOk n x) (hn : n ≤ 3) (ho : oddB odd = true) (g : WordsB x odd ws) : (ws.map (·.length)).sum + ws.length * (Str.ofString " ").length ≤ 16777216 := by
  have b := words_sum x
  have c := g.sum
  have d := g.len
  have e := odd_len10 ho
  have f := h.len
  rw [len1Sp]
  omega
theorem words_cut {x odd : Str} {k : Nat} (hk : k < (wordsOf x).length) : WordsB x odd ((wordsOf x).take k ++ [odd] ++ (wordsOf x).drop (k + 1)) ∧ WordsB x odd ((wordsOf x).take k ++ [odd] ++ (wordsOf x).drop k) ∧ WordsB x odd ((wordsOf x).take k ++ (wordsOf x).drop (k + 1)) ∧ WordsB x odd (wordsOf x ++ [odd]) := by
  have c := sum_cut (fun s : Str => s.length) (wordsOf x) k
  have d := sum_drop (fun s : Str => s.length) (wordsOf x) k
  have o : (([odd] : List Str).map (·.length)).sum = odd.length := by simp
  refine ⟨⟨?_, ?_, ?_⟩, ⟨?_, ?_, ?_⟩, ⟨?_, ?_, ?_⟩, ⟨?_, ?_, ?_⟩⟩
  · rw [sum_app, sum_app, o]; omega
  · rw [List.length_append, List.length_append, List.length_take, List.length_drop, List.length_singleton]; omega
  · intro y hy
    rcases List.mem_append.mp hy with hy | hy
    · rcases List.mem_append.mp hy with hy | hy
      · exact .inl (List.mem_of_mem_take hy)
      · exact .inr (List.mem_singleton.mp hy)
    · exact .inl (List.mem_of_mem_drop hy)
  · rw [sum_app, sum_app, o]; omega
  · rw [List.length_append, List.length_append, List.length_take, List.length_drop, List.length_singleton]; omega
  · intro y hy
    rcases List.mem_append.mp hy with hy | hy
    · rcases List.mem_append.mp hy with hy | hy
      · exact .inl (List.mem_of_mem_take hy)
      · exact .inr (List.mem_singleton.mp hy)
    · exact .inl (List.mem_of_mem_drop hy)
  · rw [sum_app]; omega
  · rw [List.length_append, List.length_take, List.length_drop]; omega
  · intro y hy
    rcases List.mem_append.mp hy with hy | hy
    · exact .inl (List.mem_of_mem_take hy)
    · exact .inl (List.mem_of_mem_drop hy)
  · rw [sum_app, o]; exact Nat.le_refl _
  · rw [List.length_append, List.length_singleton]; exact Nat.le_refl _
  · intro y hy
    rcases List.mem_append.mp hy with hy | hy
    · exact .inl hy
    · exact .inr (List.mem_singleton.mp hy)
theorem g_par3 {i j l : Nat} {ta : TA} {D : Ends} {σ : L2.St} {H : Hp} (h : ta σ H fun vs H1 => ∃ u v w, vs = [u, v, w] ∧ D.nx (((σ.set i (some u)).set j (some v)).set l (some w)) H1) : tPar3 i j l ta D σ H := h
theorem dp_strs {K : PySem.W.Frag} {H : Hp} : ∀ l : List Str, DpAll K H (l.map L2.V.str) (l.map PyData.str)
  | [] => .nil
  | c :: r => .cons (.str _) (dp_strs r)
theorem shaped_strs0 : ∀ l : List Str, (∀ c ∈ l, PyData.strOk c = true) → PyData.canLayAll0 (l.map PyData.str) = true ∧ PyData.depthAll (l.map PyData.str) ≤ 1
  | [], _ => by simp [PyData.canLayAll0, PyData.depthAll]
  | c :: r, h => by
    have ih := shaped_strs0 r fun x hx => h x (List.mem_cons_of_mem _ hx)
    have hc := h c List.mem_cons_self
    rw [List.map_cons]
    simp only [PyData.canLayAll0, PyData.canLay0, PyData.depthAll, PyData.depth]
    refine ⟨?_, by omega⟩
    rw [ih.1, Bool.and_true]
    exact hc
theorem shaped_strs {l : List Str} (h : ∀ c ∈ l, PyData.strOk c = true) : SeqAt.shaped (.list (l.map PyData.str)) = true := by
  have s := shaped_strs0 l h
  have h1 : PyData.canLay0 (.list (l.map PyData.str)) = true := by
    simp only [PyData.canLay0]
    exact s.1
  have h2 : PyData.depth (.list (l.map PyData.str)) ≤ 64 := by
    simp only [PyData.depth]
    omega
  unfold SeqAt.shaped
  rw [h1, Bool.true_and]
  exact decide_eq_true h2
theorem eqv_strs (l : List Str) : PyData.eqv (.list (l.map PyData.str)) (.list []) = decide (l = []) := by
  cases l with
  | nil => simp [PyData.eqv, PyData.eqvAll]
  | cons a r => simp [PyData.eqv, PyData.eqvAll]
def spBent : Sp := fun vs H Q _ => ∃ (q L : Addr) (b n : Nat) (ls : List Str), vs = [.ref q, .ref L] ∧ Pen H q b ∧ b ≤ 80000 ∧ L ≠ q ∧ H L = some (.lst (ls.map L2.V.str)) ∧ ls.length ≤ 20 ∧ n ≤ 3 ∧ (∀ x ∈ ls, LineOk n x) ∧
  ∀ (p : Addr) (us : List Str) (H' : Hp), p ≠ q → H p = none → Led q (b + 5) H H' → H' p = some (.lst (us.map L2.V.str)) → us.length ≤ ls.length + 1 → (∀ x ∈ us, LineOk (n + 1) x) → Q (.ref p) H'
section
variable {P : Program} {w : World} {K : PySem.W.Frag} {mg : Str → Option Value} {base : Heap}
set_option maxHeartbeats 16000000 in
theorem ok_law_bent (V : VF K mg) : FnOk P w K mg base CX0 3 V.fLB V.dLB ["_law_pen_here", "_law_lines_so"] spBent := by
  have G_law_draw := k_law_draw (P := P) (w := w) (base := base) V
  have G_law_pick := k_law_pick (P := P) (w := w) (base := base) V
  refine V.F_law_bent.ok sc_law_bent (fun vs H Q E h => ?_) (fun cdv A outer s H vs Q E hr h => ?_)
  · obtain ⟨q, L, b, n, ls, rfl, _⟩ := h
    rfl
  · obtain ⟨q, L, b, n, ls, rfl, hP, hb, nLq, hL, few, n3, lok, k⟩ := h
    have hu := hu_of hr
    have T := V.t
    refine ⟨_, (pss_cons (ps_set (i := 2) sc_law_bent.nd rfl (Or.inl rfl) (pe_lst (pa_cons pe_str (pa_cons pe_str (pa_cons pe_str (pa_cons pe_str (pa_cons pe_str (pa_cons pe_str (pa_cons pe_str (pa_cons pe_str (pa_cons pe_str (pa_cons pe_str (pa_cons pe_str (pa_cons pe_str (pa_cons pe_str (pa_cons pe_str pa_nil))))))))))))))))
      (pss_cons (ps_set (i := 2) sc_law_bent.nd rfl (Or.inl rfl) (pe_op op_cat (pv 2) (pe_lst (pa_cons pe_str (pa_cons pe_str (pa_cons pe_str (pa_cons pe_str (pa_cons pe_str (pa_cons pe_str (pa_cons pe_str pa_nil))))))))))
      (pss_cons (ps_set (i := 3) sc_law_bent.nd rfl (Or.inl rfl) (pe_call G_law_pick (hr.mono (by decide)) (by rfl) V.g_law_pick V.F_law_pick.kp V.b_law_pick .nil pass0 (pa_cons (pv 0) (pa_cons (pe_op op_cat (pv 2) (pe_lst (pa_cons pe_str (pa_cons pe_str (pa_cons pe_str pa_nil))))) pa_nil))))
      (pss_cons (ps_if (pt_cmpR (op_eqD (hr.units)) (pv 1) (pe_lst pa_nil) (nomark _)) (pss_one (ps_ret (pe_lst (pa_cons (pv 3) pa_nil)))) pss_nil)
      (pss_cons (ps_par3 (i := 4) (j := 5) (l := 6) (by rfl) sc_law_bent.nd rfl rfl rfl (by decide) (by decide) (by decide) rfl rfl rfl (pa_cons (pe_call G_law_draw (hr.mono (by decide)) (by rfl) V.g_law_draw V.F_law_draw.kp V.b_law_draw .nil pass0 (pa_cons (pv 0) (pa_cons (pe_callB call_lenL (by rfl) T.len (by decide +kernel) (pa_cons (pv 1) pa_nil)) pa_nil))) (pa_cons (pe_call G_law_draw (hr.mono (by decide)) (by rfl) V.g_law_draw V.F_law_draw.kp V.b_law_draw .nil pass0 (pa_cons (pv 0) (pa_cons (pe_callB call_lenL (by rfl) T.len (by decide +kernel) (pa_cons (pv 1) pa_nil)) pa_nil))) (pa_cons (pe_call G_law_draw (hr.mono (by decide)) (by rfl) V.g_law_draw V.F_law_draw.kp V.b_law_draw .nil pass0 (pa_cons (pv 0) (pa_cons pe_int pa_nil))) pa_nil))) (by rfl))
      (pss_cons (ps_set (i := 7) sc_law_bent.nd rfl (Or.inl rfl) (pe_bm PySem.F.plainAttrs_str PySem.F.slot_str_split PySem.F.type_str_split mt_split (pe_ix ix_list (pv 1) (pv 4) (fun _ _ => rfl)) (pa_cons pe_str pa_nil)))
      (pss_cons (ps_set (i := 8) sc_law_bent.nd rfl (Or.inl rfl) (pe_call G_law_draw (hr.mono (by decide)) (by rfl) V.g_law_draw V.F_law_draw.kp V.b_law_draw .nil pass0 (pa_cons (pv 0) (pa_cons (pe_callB call_lenL (by rfl) T.len (by decide +kernel) (pa_cons (pv 7) pa_nil)) pa_nil))))
      (pss_cons (ps_if (pt_cmpR op_lt (pv 6) pe_int (nomark _)) (pss_cons (ps_set (i := 9) sc_law_bent.nd rfl (Or.inl rfl) (pe_lst (pa_cons (pe_op op_cat (pe_op op_cat (pe_slice sl_list (pv 7) po_none (po_some (pv 8))) (pe_lst (pa_cons (pv 3) pa_nil))) (pe_slice sl_list (pv 7) (po_some (pe_op op_add (pv 8) pe_int)) po_none)) (pa_cons (pe_op op_cat (pe_op op_cat (pe_slice sl_list (pv 7) po_none (po_some (pv 8))) (pe_lst (pa_cons (pv 3) pa_nil))) (pe_slice sl_list (pv 7) (po_some (pv 8)) po_none)) pa_nil))))
      (pss_cons (ps_set (i := 9) sc_law_bent.nd rfl (Or.inl rfl) (pe_op op_cat (pv 9) (pe_lst (pa_cons (pe_op op_cat (pe_slice sl_list (pv 7) po_none (po_some (pv 8))) (pe_slice sl_list (pv 7) (po_some (pe_op op_add (pv 8) pe_int)) po_none)) (pa_cons (pe_op op_cat (pv 7) (pe_lst (pa_cons (pv 3) pa_nil))) pa_nil)))))
      (pss_one (ps_ret (pe_op op_cat (pe_op op_cat (pe_slice sl_list (pv 1) po_none (po_some (pv 4))) (pe_lst (pa_cons (pe_joinJ pe_str (pe_ix ix_list (pv 9) (pv 6) (fun _ _ => rfl))) pa_nil))) (pe_slice sl_list (pv 1) (po_some (pe_op op_add (pv 4) pe_int)) po_none)))))) pss_nil)
      (pss_cons (ps_if (pt_cmpR op_eq (pv 6) pe_int (nomark _)) (pss_one (ps_ret (pe_op op_cat (pe_slice sl_list (pv 1) po_none (po_some (pv 4))) (pe_slice sl_list (pv 1) (po_some (pe_op op_add (pv 4) pe_int)) po_none)))) pss_nil)
      (pss_cons (ps_if (pt_cmpR op_eq (pv 6) pe_int (nomark _)) (pss_one (ps_ret (pe_op op_cat (pe_op op_cat (pe_slice sl_list (pv 1) po_none (po_some (pv 5))) (pe_lst (pa_cons (pe_ix ix_list (pv 1) (pv 4) (fun _ _ => rfl)) pa_nil))) (pe_slice sl_list (pv 1) (po_some (pv 5)) po_none)))) pss_nil)
      (pss_one (ps_ret (pe_ifExp (pt_cmpR op_eq (pv 6) pe_int (nomark _)) (pe_op op_cat (pe_slice sl_list (pv 1) (po_some (pv 4)) po_none) (pe_slice sl_list (pv 1) po_none (po_some (pv 4)))) (pe_op op_cat (pe_op op_cat (pe_slice sl_list (pv 1) po_none (po_some (pv 4))) (pe_lst (pa_cons (pv 3) pa_nil))) (pe_slice sl_list (pv 1) (po_some (pv 4)) po_none))))))))))))))), ?_⟩
    try dsimp only [cxOf]
    rw [show L2.start N_law_bent [.ref q, .ref L] = [some (.ref q), some (.ref L), none, none, none, none, none, none, none, none] from rfl]
    have LL := Led.start hP
    have LL0 := LL
    walk_at "hgo"
    intro O1 zO1
    have sO1 : Same H (upd H O1 (.lst [L2.V.str (Str.ofString ""), L2.V.str (Str.ofString "open"), L2.V.str (Str.ofString "close"), L2.V.str (Str.ofString "move"), L2.V.str (Str.ofString "book"), L2.V.str (Str.ofString "restart"), L2.V.str (Str.ofString "settle"), L2.V.str (Str.ofString "a"), L2.V.str (Str.ofString "0"), L2.V.str (Str.ofString "01"), L2.V.str (Str.ofString "-1"), L2.V.str (Str.ofString "-0"), L2.V.str (Str.ofString "1000000"), L2.V.str (Str.ofString "1_0")])) := same_new zO1
    have fO1 : upd H O1 (.lst [L2.V.str (Str.ofString ""), L2.V.str (Str.ofString "open"), L2.V.str (Str.ofString "close"), L2.V.str (Str.ofString "move"), L2.V.str (Str.ofString "book"), L2.V.str (Str.ofString "restart"), L2.V.str (Str.ofString "settle"), L2.V.str (Str.ofString "a"), L2.V.str (Str.ofString "0"), L2.V.str (Str.ofString "01"), L2.V.str (Str.ofString "-1"), L2.V.str (Str.ofString "-0"), L2.V.str (Str.ofString "1000000"), L2.V.str (Str.ofString "1_0")]) O1 = some (.lst (odds1.map L2.V.str)) := upd_same
    generalize upd H O1 (.lst [L2.V.str (Str.ofString ""), L2.V.str (Str.ofString "open"), L2.V.str (Str.ofString "close"), L2.V.str (Str.ofString "move"), L2.V.str (Str.ofString "book"), L2.V.str (Str.ofString "restart"), L2.V.str (Str.ofString "settle"), L2.V.str (Str.ofString "a"), L2.V.str (Str.ofString "0"), L2.V.str (Str.ofString "01"), L2.V.str (Str.ofString "-1"), L2.V.str (Str.ofString "-0"), L2.V.str (Str.ofString "1000000"), L2.V.str (Str.ofString "1_0")]) = H101 at sO1 fO1 ⊢
    replace hL := sO1 _ _ hL
    replace LL := LL.same sO1
    have nO1 : O1 ≠ q := LL0.pen.ne zO1
    have eO1 : H O1 = none := LL0.but.free nO1 zO1
    replace LL0 := LL
    clear sO1 zO1
    walk_at "hgo"
    intro O2 zO2
    have sO2 : Same H101 (upd H101 O2 (.lst [L2.V.str (Str.ofString "999999"), L2.V.str (Str.ofString "A"), L2.V.str (Str.ofString "abcdefghi"), L2.V.str (Str.ofString "self"), L2.V.str (Str.ofString "1.0"), L2.V.str (Str.ofString "+1"), L2.V.str (Str.ofString "opens")])) := same_new zO2
    have fO2 : upd H101 O2 (.lst [L2.V.str (Str.ofString "999999"), L2.V.str (Str.ofString "A"), L2.V.str (Str.ofString "abcdefghi"), L2.V.str (Str.ofString "self"), L2.V.str (Str.ofString "1.0"), L2.V.str (Str.ofString "+1"), L2.V.str (Str.ofString "opens")]) O2 = some (.lst (odds2.map L2.V.str)) := upd_same
    generalize upd H101 O2 (.lst [L2.V.str (Str.ofString "999999"), L2.V.str (Str.ofString "A"), L2.V.str (Str.ofString "abcdefghi"), L2.V.str (Str.ofString "self"), L2.V.str (Str.ofString "1.0"), L2.V.str (Str.ofString "+1"), L2.V.str (Str.ofString "opens")]) = H102 at sO2 fO2 ⊢
    replace hL := sO2 _ _ hL
    replace fO1 := sO2 _ _ fO1
    replace LL := LL.same sO2
    have nO2 : O2 ≠ q := LL0.pen.ne zO2
    have eO2 : H O2 = none := LL0.but.free nO2 zO2
    replace LL0 := LL
    clear sO2 zO2
    walk_at "hgo"
    refine (g_catT fO1 fO2 (by decide)) ?_
    intro O3 H103 zO3 sO3 fO3
    replace hL := sO3 _ _ hL
    replace fO1 := sO3 _ _ fO1
    replace fO2 := sO3 _ _ fO2
    replace LL := LL.same sO3
    have nO3 : O3 ≠ q := LL0.pen.ne zO3
    have eO3 : H O3 = none := LL0.but.free nO3 zO3
    replace LL0 := LL
    clear sO3 zO3
    walk_at "hgo"
    clear fO1 nO1 eO1 fO2 nO2 eO2
    intro O4 zO4
    have sO4 : Same H103 (upd H103 O4 (.lst [L2.V.str (Str.ofString "Open"), L2.V.str (Str.ofString "close 1"), L2.V.str (Str.ofString "settle ")])) := same_new zO4
    have fO4 : upd H103 O4 (.lst [L2.V.str (Str.ofString "Open"), L2.V.str (Str.ofString "close 1"), L2.V.str (Str.ofString "settle ")]) O4 = some (.lst (odds3.map L2.V.str)) := upd_same
    generalize upd H103 O4 (.lst [L2.V.str (Str.ofString "Open"), L2.V.str (Str.ofString "close 1"), L2.V.str (Str.ofString "settle ")]) = H104 at sO4 fO4 ⊢
    replace hL := sO4 _ _ hL
    replace fO3 := sO4 _ _ fO3
    replace LL := LL.same sO4
    have nO4 : O4 ≠ q := LL0.pen.ne zO4
    have eO4 : H O4 = none := LL0.but.free nO4 zO4
    replace LL0 := LL
    clear sO4 zO4
    walk_at "hgo"
    refine (g_catT fO3 fO4 (by decide)) ?_
    intro O5 H105 zO5 sO5 fO5
    replace hL := sO5 _ _ hL
    replace fO3 := sO5 _ _ fO3
    replace fO4 := sO5 _ _ fO4
    replace LL := LL.same sO5
    have nO5 : O5 ≠ q := LL0.pen.ne zO5
    have eO5 : H O5 = none := LL0.but.free nO5 zO5
    replace LL0 := LL
    clear sO5 zO5
    walk_at "hgo"
    clear fO3 nO3 eO3 fO4 nO4 eO4
    refine ⟨q, .ref O5, b, rfl, LL.pen, by omega, .inl ⟨O5, _, rfl, nO5, fO5, by decide, by decide, fun v H1 hv P1 t1 => ?_⟩⟩
    replace LL := LL.draw P1 t1
    replace hL := t1.st _ _ nLq hL
    clear P1 t1 fO5 nO5 eO5 LL0
    have LL0 := LL
    obtain ⟨odd, ho, rfl⟩ := List.mem_map.mp hv
    have oo := odds_ok odd ho
    clear hv ho
    walk_at "hgo"
    intro E0' hE0
    have hL2 := same_new (o := .lst []) hE0 _ _ hL
    refine g_eqD (.lst (SqL.of hL2) (dp_strs ls)) (.lst (SqL.of upd_same) .nil) (shaped_strs fun c hc => fit_strOk (lok c hc).fit) (by decide +kernel) ?_
    rw [eqv_strs]
    replace LL := LL.same (same_new (o := .lst []) hE0)
    replace hL := hL2
    generalize upd H1 E0' (.lst []) = H2 at LL hL ⊢
    clear hL2 hE0 LL0
    have LL0 := LL
    walk_at "hgo"
    by_cases c0 : ls = []
    · refine g_true (by simp [c0]) ?_
      walk_at "hgo"
      intro R zR
      have sR : Same H2 (upd H2 R (.lst [L2.V.str odd])) := same_new zR
      have fR : upd H2 R (.lst [L2.V.str odd]) R = some (.lst ([odd].map L2.V.str)) := upd_same
      generalize upd H2 R (.lst [L2.V.str odd]) = H151 at sR fR ⊢
      replace hL := sR _ _ hL
      replace LL := LL.same sR
      have nR : R ≠ q := LL0.pen.ne zR
      have eR : H R = none := LL0.but.free nR zR
      replace LL0 := LL
      clear sR zR
      walk_at "hgo"
      exact k R [odd] _ nR eR (LL.more (by omega)) fR (by rw [List.length_singleton]; omega) fun x hx => by rw [List.mem_singleton.mp hx]; exact odd_line oo _
    refine g_false (by simp [c0]) ?_
    have lpos : 0 < ls.length := List.length_pos_iff.mpr c0
    walk_at "hgo"
    refine g_par3 ?_
    walk_at "hgo"
    refine ⟨q, ((ls.map L2.V.str).length : Int), _, rfl, LL.pen, by omega, by rw [List.length_map]; omega, by rw [List.length_map]; omega, ?_⟩
    intro axI Hax a0 a1 P1 t1
    replace LL := LL.draw P1 t1
    replace hL := t1.st _ _ nLq hL
    clear P1 t1
    obtain ⟨ax, rfl⟩ : ∃ j : Nat, axI = (j : Int) := ⟨axI.toNat, by omega⟩
    have hax : ax < ls.length := by rw [List.length_map] at a1; omega
    clear a0 a1
    walk_at "hgo"
    refine ⟨q, ((ls.map L2.V.str).length : Int), _, rfl, LL.pen, by omega, by rw [List.length_map]; omega, by rw [List.length_map]; omega, ?_⟩
    intro otI Hot a0 a1 P1 t1
    replace LL := LL.draw P1 t1
    replace hL := t1.st _ _ nLq hL
    clear P1 t1
    obtain ⟨ot, rfl⟩ : ∃ j : Nat, otI = (j : Int) := ⟨otI.toNat, by omega⟩
    have hot : ot < ls.length := by rw [List.length_map] at a1; omega
    clear a0 a1
    walk_at "hgo"
    refine ⟨q, 8, _, rfl, LL.pen, by omega, by decide, by decide, ?_⟩
    intro wayI Hway a0 a1 P1 t1
    replace LL := LL.draw P1 t1
    replace hL := t1.st _ _ nLq hL
    clear P1 t1
    walk_at "hgo"
    clear LL0
    have LL0 := LL
    obtain ⟨x, hx⟩ : ∃ x, ls[ax]? = some x := ⟨_, List.getElem?_eq_getElem hax⟩
    have xok := lok x (List.mem_of_getElem? hx)
    have xl := xok.len
    have gx : (ls.map L2.V.str)[ax]? = some (.str x) := by rw [List.getElem?_map, hx]; rfl
    refine ⟨_, _, _, rfl, ?_⟩
    dsimp only [List.set]
    refine g_seq ?_
    walk_at "hx"
    refine g_bm ?_
    walk_at "hx"
    refine g_ixL (SqL.of hL) (atI_nat gx) ?_
    walk_at "hx"
    refine ⟨x, _, rfl, rfl, len1S, Nat.le_trans (show x.length + 2 ≤ 200000 by omega) (by decide), ?_⟩
    rw [show Txt.split x (Str.ofString " ") = wordsOf x from rfl]
    intro W zW
    have sW : Same Hway (upd Hway W (.lst ((wordsOf x).map L2.V.str))) := same_new zW
    have fW : upd Hway W (.lst ((wordsOf x).map L2.V.str)) W = some (.lst ((wordsOf x).map L2.V.str)) := upd_same
    generalize upd Hway W (.lst ((wordsOf x).map L2.V.str)) = H3 at sW fW ⊢
    replace hL := sW _ _ hL
    replace LL := LL.same sW
    have nW : W ≠ q := LL0.pen.ne zW
    have eW : H W = none := LL0.but.free nW zW
    replace LL0 := LL
    clear sW zW
    walk_at "hgo"
    have wn := words_ne x
    have wpos : 0 < (wordsOf x).length := List.length_pos_iff.mpr wn
    have wlen : (wordsOf x).length ≤ 200 := by have := words_sum x; omega
    refine ⟨q, (((wordsOf x).map L2.V.str).length : Int), _, rfl, LL.pen, by omega, by rw [List.length_map]; omega, by rw [List.length_map]; omega, ?_⟩
    intro kI Hk a0 a1 P1 t1
    replace LL := LL.draw P1 t1
    replace hL := t1.st _ _ nLq hL
    replace fW := t1.st _ _ nW fW
    clear P1 t1
    obtain ⟨kx, rfl⟩ : ∃ j : Nat, kI = (j : Int) := ⟨kI.toNat, by omega⟩
    have hkx : kx < (wordsOf x).length := by rw [List.length_map] at a1; omega
    clear a0 a1
    replace LL0 := LL
    obtain ⟨wb1, wb2, wb3, wb4⟩ := words_cut (odd := odd) hkx
    walk_at "hgo"
    by_cases cw : wayI < 4
    · refine g_true (decide_eq_true cw) ?_
      walk_at "hgo"
      refine (g_take (by omega) fW) ?_
      intro A1 H106 zA1 sA1 fA1
      replace hL := sA1 _ _ hL
      replace fW := sA1 _ _ fW
      replace LL := LL.same sA1
      have nA1 : A1 ≠ q := LL0.pen.ne zA1
      have eA1 : H A1 = none := LL0.but.free nA1 zA1
      replace LL0 := LL
      clear sA1 zA1
      walk_at "hgo"
      intro A2 zA2
      have sA2 : Same H106 (upd H106 A2 (.lst [L2.V.str odd])) := same_new zA2
      have fA2 : upd H106 A2 (.lst [L2.V.str odd]) A2 = some (.lst ([odd].map L2.V.str)) := upd_same
      generalize upd H106 A2 (.lst [L2.V.str odd]) = H107 at sA2 fA2 ⊢
      replace hL := sA2 _ _ hL
      replace fW := sA2 _ _ fW
      replace fA1 := sA2 _ _ fA1
      replace LL := LL.same sA2
      have nA2 : A2 ≠ q := LL0.pen.ne zA2
      have eA2 : H A2 = none := LL0.but.free nA2 zA2
      replace LL0 := LL
      clear sA2 zA2
      walk_at "hgo"
      refine (g_catT fA1 fA2 (by rw [List.length_take, List.length_singleton]; omega)) ?_
      intro A3 H108 zA3 sA3 fA3
      replace hL := sA3 _ _ hL
      replace fW := sA3 _ _ fW
      replace fA1 := sA3 _ _ fA1
      replace fA2 := sA3 _ _ fA2
      replace LL := LL.same sA3
      have nA3 : A3 ≠ q := LL0.pen.ne zA3
      have eA3 : H A3 = none := LL0.but.free nA3 zA3
      replace LL0 := LL
      clear sA3 zA3
      walk_at "hgo"
      clear fA1 nA1 eA1 fA2 nA2 eA2
      rw [show (kx : Int) + 1 = ((kx + 1 : Nat) : Int) by omega]
      refine (g_drop' (by omega) fW) ?_
      intro A4 H109 zA4 sA4 fA4
      replace hL := sA4 _ _ hL
      replace fW := sA4 _ _ fW
      replace fA3 := sA4 _ _ fA3
      replace LL := LL.same sA4
      have nA4 : A4 ≠ q := LL0.pen.ne zA4
      have eA4 : H A4 = none := LL0.but.free nA4 zA4
      replace LL0 := LL
      clear sA4 zA4
      walk_at "hgo"
      refine (g_catT fA3 fA4 (by simp only [List.length_append, List.length_take, List.length_drop, List.length_singleton]; omega)) ?_
      intro A5 H110 zA5 sA5 fA5
      replace hL := sA5 _ _ hL
      replace fW := sA5 _ _ fW
      replace fA3 := sA5 _ _ fA3
      replace fA4 := sA5 _ _ fA4
      replace LL := LL.same sA5
      have nA5 : A5 ≠ q := LL0.pen.ne zA5
      have eA5 : H A5 = none := LL0.but.free nA5 zA5
      replace LL0 := LL
      clear sA5 zA5
      walk_at "hgo"
      clear fA3 nA3 eA3 fA4 nA4 eA4
      refine (g_take (by omega) fW) ?_
      intro B1 H111 zB1 sB1 fB1
      replace hL := sB1 _ _ hL
      replace fW := sB1 _ _ fW
      replace fA5 := sB1 _ _ fA5
      replace LL := LL.same sB1
      have nB1 : B1 ≠ q := LL0.pen.ne zB1
      have eB1 : H B1 = none := LL0.but.free nB1 zB1
      replace LL0 := LL
      clear sB1 zB1
      walk_at "hgo"
      intro B2 zB2
      have sB2 : Same H111 (upd H111 B2 (.lst [L2.V.str odd])) := same_new zB2
      have fB2 : upd H111 B2 (.lst [L2.V.str odd]) B2 = some (.lst ([odd].map L2.V.str)) := upd_same
      generalize upd H111 B2 (.lst [L2.V.str odd]) = H112 at sB2 fB2 ⊢
      replace hL := sB2 _ _ hL
      replace fW := sB2 _ _ fW
      replace fA5 := sB2 _ _ fA5
      replace fB1 := sB2 _ _ fB1
      replace LL := LL.same sB2
      have nB2 : B2 ≠ q := LL0.pen.ne zB2
      have eB2 : H B2 = none := LL0.but.free nB2 zB2
      replace LL0 := LL
      clear sB2 zB2
      walk_at "hgo"
      refine (g_catT fB1 fB2 (by rw [List.length_take, List.length_singleton]; omega)) ?_
      intro B3 H113 zB3 sB3 fB3
      replace hL := sB3 _ _ hL
      replace fW := sB3 _ _ fW
      replace fA5 := sB3 _ _ fA5
      replace fB1 := sB3 _ _ fB1
      replace fB2 := sB3 _ _ fB2
      replace LL := LL.same sB3
      have nB3 : B3 ≠ q := LL0.pen.ne zB3
      have eB3 : H B3 = none := LL0.but.free nB3 zB3
      replace LL0 := LL
      clear sB3 zB3
      walk_at "hgo"
      clear fB1 nB1 eB1 fB2 nB2 eB2
      refine (g_drop' (by omega) fW) ?_
      intro B4 H114 zB4 sB4 fB4
      replace hL := sB4 _ _ hL
      replace fW := sB4 _ _ fW
      replace fA5 := sB4 _ _ fA5
      replace fB3 := sB4 _ _ fB3
      replace LL := LL.same sB4
      have nB4 : B4 ≠ q := LL0.pen.ne zB4
      have eB4 : H B4 = none := LL0.but.free nB4 zB4
      replace LL0 := LL
      clear sB4 zB4
      walk_at "hgo"
      refine (g_catT fB3 fB4 (by simp only [List.length_append, List.length_take, List.length_drop, List.length_singleton]; omega)) ?_
      intro B5 H115 zB5 sB5 fB5
      replace hL := sB5 _ _ hL
      replace fW := sB5 _ _ fW
      replace fA5 := sB5 _ _ fA5
      replace fB3 := sB5 _ _ fB3
      replace fB4 := sB5 _ _ fB4
      replace LL := LL.same sB5
      have nB5 : B5 ≠ q := LL0.pen.ne zB5
      have eB5 : H B5 = none := LL0.but.free nB5 zB5
      replace LL0 := LL
      clear sB5 zB5
      walk_at "hgo"
      clear fB3 nB3 eB3 fB4 nB4 eB4
      intro M1 zM1
      have sM1 : Same H115 (upd H115 M1 (.lst [L2.V.ref A5, L2.V.ref B5])) := same_new zM1
      have fM1 : upd H115 M1 (.lst [L2.V.ref A5, L2.V.ref B5]) M1 = some (.lst [L2.V.ref A5, L2.V.ref B5]) := upd_same
      generalize upd H115 M1 (.lst [L2.V.ref A5, L2.V.ref B5]) = H116 at sM1 fM1 ⊢
      replace hL := sM1 _ _ hL
      replace fW := sM1 _ _ fW
      replace fA5 := sM1 _ _ fA5
      replace fB5 := sM1 _ _ fB5
      replace LL := LL.same sM1
      have nM1 : M1 ≠ q := LL0.pen.ne zM1
      have eM1 : H M1 = none := LL0.but.free nM1 zM1
      replace LL0 := LL
      clear sM1 zM1
      walk_at "hgo"
      refine (g_take (by omega) fW) ?_
      intro C1 H117 zC1 sC1 fC1
      replace hL := sC1 _ _ hL
      replace fW := sC1 _ _ fW
      replace fA5 := sC1 _ _ fA5
      replace fB5 := sC1 _ _ fB5
      replace fM1 := sC1 _ _ fM1
      replace LL := LL.same sC1
      have nC1 : C1 ≠ q := LL0.pen.ne zC1
      have eC1 : H C1 = none := LL0.but.free nC1 zC1
      replace LL0 := LL
      clear sC1 zC1
      walk_at "hgo"
      rw [show (kx : Int) + 1 = ((kx + 1 : Nat) : Int) by omega]
      refine (g_drop' (by omega) fW) ?_
      intro C2 H118 zC2 sC2 fC2
      replace hL := sC2 _ _ hL
      replace fW := sC2 _ _ fW
      replace fA5 := sC2 _ _ fA5
      replace fB5 := sC2 _ _ fB5
      replace fM1 := sC2 _ _ fM1
      replace fC1 := sC2 _ _ fC1
      replace LL := LL.same sC2
      have nC2 : C2 ≠ q := LL0.pen.ne zC2
      have eC2 : H C2 = none := LL0.but.free nC2 zC2
      replace LL0 := LL
      clear sC2 zC2
      walk_at "hgo"
      refine (g_catT fC1 fC2 (by simp only [List.length_take, List.length_drop]; omega)) ?_
      intro C3 H119 zC3 sC3 fC3
      replace hL := sC3 _ _ hL
      replace fW := sC3 _ _ fW
      replace fA5 := sC3 _ _ fA5
      replace fB5 := sC3 _ _ fB5
      replace fM1 := sC3 _ _ fM1
      replace fC1 := sC3 _ _ fC1
      replace fC2 := sC3 _ _ fC2
      replace LL := LL.same sC3
      have nC3 : C3 ≠ q := LL0.pen.ne zC3
      have eC3 : H C3 = none := LL0.but.free nC3 zC3
      replace LL0 := LL
      clear sC3 zC3
      walk_at "hgo"
      clear fC1 nC1 eC1 fC2 nC2 eC2
      intro D1 zD1
      have sD1 : Same H119 (upd H119 D1 (.lst [L2.V.str odd])) := same_new zD1
      have fD1 : upd H119 D1 (.lst [L2.V.str odd]) D1 = some (.lst ([odd].map L2.V.str)) := upd_same
      generalize upd H119 D1 (.lst [L2.V.str odd]) = H120 at sD1 fD1 ⊢
      replace hL := sD1 _ _ hL
      replace fW := sD1 _ _ fW
      replace fA5 := sD1 _ _ fA5
      replace fB5 := sD1 _ _ fB5
      replace fM1 := sD1 _ _ fM1
      replace fC3 := sD1 _ _ fC3
      replace LL := LL.same sD1
      have nD1 : D1 ≠ q := LL0.pen.ne zD1
      have eD1 : H D1 = none := LL0.but.free nD1 zD1
      replace LL0 := LL
      clear sD1 zD1
      walk_at "hgo"
      refine (g_catT fW fD1 (by rw [List.length_singleton]; omega)) ?_
      intro D2 H121 zD2 sD2 fD2
      replace hL := sD2 _ _ hL
      replace fW := sD2 _ _ fW
      replace fA5 := sD2 _ _ fA5
      replace fB5 := sD2 _ _ fB5
      replace fM1 := sD2 _ _ fM1
      replace fC3 := sD2 _ _ fC3
      replace fD1 := sD2 _ _ fD1
      replace LL := LL.same sD2
      have nD2 : D2 ≠ q := LL0.pen.ne zD2
      have eD2 : H D2 = none := LL0.but.free nD2 zD2
      replace LL0 := LL
      clear sD2 zD2
      walk_at "hgo"
      clear fD1 nD1 eD1
      intro M2 zM2
      have sM2 : Same H121 (upd H121 M2 (.lst [L2.V.ref C3, L2.V.ref D2])) := same_new zM2
      have fM2 : upd H121 M2 (.lst [L2.V.ref C3, L2.V.ref D2]) M2 = some (.lst [L2.V.ref C3, L2.V.ref D2]) := upd_same
      generalize upd H121 M2 (.lst [L2.V.ref C3, L2.V.ref D2]) = H122 at sM2 fM2 ⊢
      replace hL := sM2 _ _ hL
      replace fW := sM2 _ _ fW
      replace fA5 := sM2 _ _ fA5
      replace fB5 := sM2 _ _ fB5
      replace fM1 := sM2 _ _ fM1
      replace fC3 := sM2 _ _ fC3
      replace fD2 := sM2 _ _ fD2
      replace LL := LL.same sM2
      have nM2 : M2 ≠ q := LL0.pen.ne zM2
      have eM2 : H M2 = none := LL0.but.free nM2 zM2
      replace LL0 := LL
      clear sM2 zM2
      walk_at "hgo"
      refine (g_catR fM1 fM2 (show 2 + 2 ≤ 100000 by decide)) ?_
      intro M3 H123 zM3 sM3 fM3
      replace hL := sM3 _ _ hL
      replace fW := sM3 _ _ fW
      replace fA5 := sM3 _ _ fA5
      replace fB5 := sM3 _ _ fB5
      replace fM1 := sM3 _ _ fM1
      replace fC3 := sM3 _ _ fC3
      replace fD2 := sM3 _ _ fD2
      replace fM2 := sM3 _ _ fM2
      replace LL := LL.same sM3
      have nM3 : M3 ≠ q := LL0.pen.ne zM3
      have eM3 : H M3 = none := LL0.but.free nM3 zM3
      replace LL0 := LL
      clear sM3 zM3
      walk_at "hgo"
      clear fM1 nM1 eM1 fM2 nM2 eM2
      refine (g_take (by omega) hL) ?_
      intro P1 H124 zP1 sP1 fP1
      replace hL := sP1 _ _ hL
      replace fW := sP1 _ _ fW
      replace fA5 := sP1 _ _ fA5
      replace fB5 := sP1 _ _ fB5
      replace fC3 := sP1 _ _ fC3
      replace fD2 := sP1 _ _ fD2
      replace fM3 := sP1 _ _ fM3
      replace LL := LL.same sP1
      have nP1 : P1 ≠ q := LL0.pen.ne zP1
      have eP1 : H P1 = none := LL0.but.free nP1 zP1
      replace LL0 := LL
      clear sP1 zP1
      walk_at "hgo"
      obtain ⟨Y, us, ey, fY, wb⟩ : ∃ (Y : Addr) (us : List Str), atI ([L2.V.ref A5, L2.V.ref B5] ++ [L2.V.ref C3, L2.V.ref D2]) wayI = some (.ref Y) ∧ H124 Y = some (.lst (us.map L2.V.str)) ∧ WordsB x odd us := by
        have hw : wayI = 0 ∨ wayI = 1 ∨ wayI = 2 ∨ wayI = 3 := by omega
        rcases hw with rfl | rfl | rfl | rfl
        · exact ⟨A5, _, rfl, fA5, wb1⟩
        · exact ⟨B5, _, rfl, fB5, wb2⟩
        · exact ⟨C3, _, rfl, fC3, wb3⟩
        · exact ⟨D2, _, rfl, fD2, wb4⟩
      refine g_ixL (SqL.of fM3) ey ?_
      walk_at "hgo"
      refine g_join (SqL.of fY) (bent_size xok n3 oo wb) ?_
      rw [show Txt.join (Str.ofString " ") us = joinW (Str.ofString " ") us from rfl]
      have jok := bent_line xok oo wb
      clear fY fA5 fB5 fC3 fD2 fM3 fW
      walk_at "hgo"
      intro J1 zJ1
      have sJ1 : Same H124 (upd H124 J1 (.lst [L2.V.str (joinW (Str.ofString " ") us)])) := same_new zJ1
      have fJ1 : upd H124 J1 (.lst [L2.V.str (joinW (Str.ofString " ") us)]) J1 = some (.lst ([joinW (Str.ofString " ") us].map L2.V.str)) := upd_same
      generalize upd H124 J1 (.lst [L2.V.str (joinW (Str.ofString " ") us)]) = H125 at sJ1 fJ1 ⊢
      replace hL := sJ1 _ _ hL
      replace fP1 := sJ1 _ _ fP1
      replace LL := LL.same sJ1
      have nJ1 : J1 ≠ q := LL0.pen.ne zJ1
      have eJ1 : H J1 = none := LL0.but.free nJ1 zJ1
      replace LL0 := LL
      clear sJ1 zJ1
      walk_at "hgo"
      refine (g_catT fP1 fJ1 (by rw [List.length_take, List.length_singleton]; omega)) ?_
      intro P2 H126 zP2 sP2 fP2
      replace hL := sP2 _ _ hL
      replace fP1 := sP2 _ _ fP1
      replace fJ1 := sP2 _ _ fJ1
      replace LL := LL.same sP2
      have nP2 : P2 ≠ q := LL0.pen.ne zP2
      have eP2 : H P2 = none := LL0.but.free nP2 zP2
      replace LL0 := LL
      clear sP2 zP2
      walk_at "hgo"
      clear fP1 nP1 eP1 fJ1 nJ1 eJ1
      rw [show (ax : Int) + 1 = ((ax + 1 : Nat) : Int) by omega]
      refine (g_drop' (by omega) hL) ?_
      intro P3 H127 zP3 sP3 fP3
      replace hL := sP3 _ _ hL
      replace fP2 := sP3 _ _ fP2
      replace LL := LL.same sP3
      have nP3 : P3 ≠ q := LL0.pen.ne zP3
      have eP3 : H P3 = none := LL0.but.free nP3 zP3
      replace LL0 := LL
      clear sP3 zP3
      walk_at "hgo"
      refine (g_catT fP2 fP3 (by simp only [List.length_append, List.length_take, List.length_drop, List.length_singleton]; omega)) ?_
      intro P4 H128 zP4 sP4 fP4
      replace hL := sP4 _ _ hL
      replace fP2 := sP4 _ _ fP2
      replace fP3 := sP4 _ _ fP3
      replace LL := LL.same sP4
      have nP4 : P4 ≠ q := LL0.pen.ne zP4
      have eP4 : H P4 = none := LL0.but.free nP4 zP4
      replace LL0 := LL
      clear sP4 zP4
      walk_at "hgo"
      refine k P4 _ _ nP4 eP4 (LL.more (by omega)) fP4 (by simp only [List.length_append, List.length_take, List.length_drop, List.length_singleton]; omega) fun y hy => ?_
      rcases List.mem_append.mp hy with hy | hy
      · rcases List.mem_append.mp hy with hy | hy
        · exact (lok y (List.mem_of_mem_take hy)).more
        · rw [List.mem_singleton.mp hy]; exact jok
      · exact (lok y (List.mem_of_mem_drop hy)).more
    refine g_false (decide_eq_false cw) ?_
    walk_at "hgo"
    by_cases c4 : wayI = 4
    · refine g_true (by rw [c4]; rfl) ?_
      walk_at "hgo"
      refine (g_take (by omega) hL) ?_
      intro P1 H106 zP1 sP1 fP1
      replace hL := sP1 _ _ hL
      replace fW := sP1 _ _ fW
      replace LL := LL.same sP1
      have nP1 : P1 ≠ q := LL0.pen.ne zP1
      have eP1 : H P1 = none := LL0.but.free nP1 zP1
      replace LL0 := LL
      clear sP1 zP1
      walk_at "hgo"
      rw [show (ax : Int) + 1 = ((ax + 1 : Nat) : Int) by omega]
      refine (g_drop' (by omega) hL) ?_
      intro P3 H107 zP3 sP3 fP3
      replace hL := sP3 _ _ hL
      replace fW := sP3 _ _ fW
      replace fP1 := sP3 _ _ fP1
      replace LL := LL.same sP3
      have nP3 : P3 ≠ q := LL0.pen.ne zP3
      have eP3 : H P3 = none := LL0.but.free nP3 zP3
      replace LL0 := LL
      clear sP3 zP3
      walk_at "hgo"
      refine (g_catT fP1 fP3 (by simp only [List.length_take, List.length_drop]; omega)) ?_
      intro P4 H108 zP4 sP4 fP4
      replace hL := sP4 _ _ hL
      replace fW := sP4 _ _ fW
      replace fP1 := sP4 _ _ fP1
      replace fP3 := sP4 _ _ fP3
      replace LL := LL.same sP4
      have nP4 : P4 ≠ q := LL0.pen.ne zP4
      have eP4 : H P4 = none := LL0.but.free nP4 zP4
      replace LL0 := LL
      clear sP4 zP4
      walk_at "hgo"
      refine k P4 _ _ nP4 eP4 (LL.more (by omega)) fP4 (by simp only [List.length_append, List.length_take, List.length_drop, List.length_singleton]; omega) fun y hy => ?_
      rcases List.mem_append.mp hy with hy | hy
      · exact (lok y (List.mem_of_mem_take hy)).more
      · exact (lok y (List.mem_of_mem_drop hy)).more
    refine g_false (by simp only [decide_eq_false_iff_not, L2.V.int.injEq]; exact c4) ?_
    walk_at "hgo"
    by_cases c5 : wayI = 5
    · refine g_true (by rw [c5]; rfl) ?_
      walk_at "hgo"
      refine (g_take (by omega) hL) ?_
      intro P1 H106 zP1 sP1 fP1
      replace hL := sP1 _ _ hL
      replace fW := sP1 _ _ fW
      replace LL := LL.same sP1
      have nP1 : P1 ≠ q := LL0.pen.ne zP1
      have eP1 : H P1 = none := LL0.but.free nP1 zP1
      replace LL0 := LL
      clear sP1 zP1
      walk_at "hgo"
      refine g_ixL (SqL.of hL) (atI_nat gx) ?_
      walk_at "hgo"
      intro J1 zJ1
      have sJ1 : Same H106 (upd H106 J1 (.lst [L2.V.str x])) := same_new zJ1
      have fJ1 : upd H106 J1 (.lst [L2.V.str x]) J1 = some (.lst ([x].map L2.V.str)) := upd_same
      generalize upd H106 J1 (.lst [L2.V.str x]) = H107 at sJ1 fJ1 ⊢
      replace hL := sJ1 _ _ hL
      replace fW := sJ1 _ _ fW
      replace fP1 := sJ1 _ _ fP1
      replace LL := LL.same sJ1
      have nJ1 : J1 ≠ q := LL0.pen.ne zJ1
      have eJ1 : H J1 = none := LL0.but.free nJ1 zJ1
      replace LL0 := LL
      clear sJ1 zJ1
      walk_at "hgo"
      refine (g_catT fP1 fJ1 (by rw [List.length_take, List.length_singleton]; omega)) ?_
      intro P2 H108 zP2 sP2 fP2
      replace hL := sP2 _ _ hL
      replace fW := sP2 _ _ fW
      replace fP1 := sP2 _ _ fP1
      replace fJ1 := sP2 _ _ fJ1
      replace LL := LL.same sP2
      have nP2 : P2 ≠ q := LL0.pen.ne zP2
      have eP2 : H P2 = none := LL0.but.free nP2 zP2
      replace LL0 := LL
      clear sP2 zP2
      walk_at "hgo"
      clear fP1 nP1 eP1 fJ1 nJ1 eJ1
      refine (g_drop' (by omega) hL) ?_
      intro P3 H109 zP3 sP3 fP3
      replace hL := sP3 _ _ hL
      replace fW := sP3 _ _ fW
      replace fP2 := sP3 _ _ fP2
      replace LL := LL.same sP3
      have nP3 : P3 ≠ q := LL0.pen.ne zP3
      have eP3 : H P3 = none := LL0.but.free nP3 zP3
      replace LL0 := LL
      clear sP3 zP3
      walk_at "hgo"
      refine (g_catT fP2 fP3 (by simp only [List.length_append, List.length_take, List.length_drop, List.length_singleton]; omega)) ?_
      intro P4 H110 zP4 sP4 fP4
      replace hL := sP4 _ _ hL
      replace fW := sP4 _ _ fW
      replace fP2 := sP4 _ _ fP2
      replace fP3 := sP4 _ _ fP3
      replace LL := LL.same sP4
      have nP4 : P4 ≠ q := LL0.pen.ne zP4
      have eP4 : H P4 = none := LL0.but.free nP4 zP4
      replace LL0 := LL
      clear sP4 zP4
      walk_at "hgo"
      refine k P4 _ _ nP4 eP4 (LL.more (by omega)) fP4 (by simp only [List.length_append, List.length_take, List.length_drop, List.length_singleton]; omega) fun y hy => ?_
      rcases List.mem_append.mp hy with hy | hy
      · rcases List.mem_append.mp hy with hy | hy
        · exact (lok y (List.mem_of_mem_take hy)).more
        · rw [List.mem_singleton.mp hy]; exact xok.more
      · exact (lok y (List.mem_of_mem_drop hy)).more
    refine g_false (by simp only [decide_eq_false_iff_not, L2.V.int.injEq]; exact c5) ?_
    walk_at "hgo"
    by_cases c6 : wayI = 6
    · refine g_true (by rw [c6]; rfl) ?_
      walk_at "hgo"
      refine (g_drop' (by omega) hL) ?_
      intro P1 H106 zP1 sP1 fP1
      replace hL := sP1 _ _ hL
      replace fW := sP1 _ _ fW
      replace LL := LL.same sP1
      have nP1 : P1 ≠ q := LL0.pen.ne zP1
      have eP1 : H P1 = none := LL0.but.free nP1 zP1
      replace LL0 := LL
      clear sP1 zP1
      walk_at "hgo"
      refine (g_take (by omega) hL) ?_
      intro P3 H107 zP3 sP3 fP3
      replace hL := sP3 _ _ hL
      replace fW := sP3 _ _ fW
      replace fP1 := sP3 _ _ fP1
      replace LL := LL.same sP3
      have nP3 : P3 ≠ q := LL0.pen.ne zP3
      have eP3 : H P3 = none := LL0.but.free nP3 zP3
      replace LL0 := LL
      clear sP3 zP3
      walk_at "hgo"
      refine (g_catT fP1 fP3 (by simp only [List.length_take, List.length_drop]; omega)) ?_
      intro P4 H108 zP4 sP4 fP4
      replace hL := sP4 _ _ hL
      replace fW := sP4 _ _ fW
      replace fP1 := sP4 _ _ fP1
      replace fP3 := sP4 _ _ fP3
      replace LL := LL.same sP4
      have nP4 : P4 ≠ q := LL0.pen.ne zP4
      have eP4 : H P4 = none := LL0.but.free nP4 zP4
      replace LL0 := LL
      clear sP4 zP4
      walk_at "hgo"
      refine k P4 _ _ nP4 eP4 (LL.more (by omega)) fP4 (by simp only [List.length_append, List.length_take, List.length_drop, List.length_singleton]; omega) fun y hy => ?_
      rcases List.mem_append.mp hy with hy | hy
      · exact (lok y (List.mem_of_mem_drop hy)).more
      · exact (lok y (List.mem_of_mem_take hy)).more
    refine g_false (by simp only [decide_eq_false_iff_not, L2.V.int.injEq]; exact c6) ?_
    walk_at "hgo"
    refine (g_take (by omega) hL) ?_
    intro P1 H106 zP1 sP1 fP1
    replace hL := sP1 _ _ hL
    replace fW := sP1 _ _ fW
    replace LL := LL.same sP1
    have nP1 : P1 ≠ q := LL0.pen.ne zP1
    have eP1 : H P1 = none := LL0.but.free nP1 zP1
    replace LL0 := LL
    clear sP1 zP1
    walk_at "hgo"
    intro J1 zJ1
    have sJ1 : Same H106 (upd H106 J1 (.lst [L2.V.str odd])) := same_new zJ1
    have fJ1 : upd H106 J1 (.lst [L2.V.str odd]) J1 = some (.lst ([odd].map L2.V.str)) := upd_same
    generalize upd H106 J1 (.lst [L2.V.str odd]) = H107 at sJ1 fJ1 ⊢
    replace hL := sJ1 _ _ hL
    replace fW := sJ1 _ _ fW
    replace fP1 := sJ1 _ _ fP1
    replace LL := LL.same sJ1
    have nJ1 : J1 ≠ q := LL0.pen.ne zJ1
    have eJ1 : H J1 = none := LL0.but.free nJ1 zJ1
    replace LL0 := LL
    clear sJ1 zJ1
    walk_at "hgo"
    refine (g_catT fP1 fJ1 (by rw [List.length_take, List.length_singleton]; omega)) ?_
    intro P2 H108 zP2 sP2 fP2
    replace hL := sP2 _ _ hL
    replace fW := sP2 _ _ fW
    replace fP1 := sP2 _ _ fP1
    replace fJ1 := sP2 _ _ fJ1
    replace LL := LL.same sP2
    have nP2 : P2 ≠ q := LL0.pen.ne zP2
    have eP2 : H P2 = none := LL0.but.free nP2 zP2
    replace LL0 := LL
    clear sP2 zP2
    walk_at "hgo"
    clear fP1 nP1 eP1 fJ1 nJ1 eJ1
    refine (g_drop' (by omega) hL) ?_
    intro P3 H109 zP3 sP3 fP3
    replace hL := sP3 _ _ hL
    replace fW := sP3 _ _ fW
    replace fP2 := sP3 _ _ fP2
    replace LL := LL.same sP3
    have nP3 : P3 ≠ q := LL0.pen.ne zP3
    have eP3 : H P3 = none := LL0.but.free nP3 zP3
    replace LL0 := LL
    clear sP3 zP3
    walk_at "hgo"
    refine (g_catT fP2 fP3 (by simp only [List.length_append, List.length_take, List.length_drop, List.length_singleton]; omega)) ?_
    intro P4 H110 zP4 sP4 fP4
    replace hL := sP4 _ _ hL
    replace fW := sP4 _ _ fW
    replace fP2 := sP4 _ _ fP2
    replace fP3 := sP4 _ _ fP3
    replace LL := LL.same sP4
    have nP4 : P4 ≠ q := LL0.pen.ne zP4
    have eP4 : H P4 = none := LL0.but.free nP4 zP4
    replace LL0 := LL
    clear sP4 zP4
    walk_at "hgo"
    refine k P4 _ _ nP4 eP4 (LL.more (by omega)) fP4 (by simp only [List.length_append, List.length_take, List.length_drop, List.length_singleton]; omega) fun y hy => ?_
    rcases List.mem_append.mp hy with hy | hy
    · rcases List.mem_append.mp hy with hy | hy
      · exact (lok y (List.mem_of_mem_take hy)).more
      · rw [List.mem_singleton.mp hy]; exact odd_line oo _
    · exact (lok y (List.mem_of_mem_drop hy)).more
end

def spLaw (K : PySem.W.Frag) : Sp := fun vs H Q _ => ∃ (a : Addr) (ns : List Int), vs = [.ref a] ∧ SqL K H a (ns.map L2.V.int) ∧ ns.length ≤ 63 ∧ ∀ H', Q (.bl true) H'
theorem Led.put {q p : Addr} {b b0 : Nat} {H H1 : Hp} {u : HO} (l : Led q b H H1) (hP : Pen H q b0) (hp : H p = none) : Led q b H (upd H1 p u) := l.keep hP hp But.self l.but
theorem tup_eqv (ds : List Deed) : PyData.eqv (.tuple (pdD ds)) (.tuple (pdD ds)) = true := by simp only [PyData.eqv]; exact eqv_rows ds
theorem page_small {ds : List Deed} (few : ds.length ≤ 12) (h : ∀ d ∈ ds, Rt d) : (pageT ds).length ≤ 2000 := by
  have l := joinW_len line_tl (ds.map lineT)
  have b := sum_bound (fun s : Str => s.length) (n := 26) (xs := ds.map lineT) fun x hx => by
    obtain ⟨d, hd, rfl⟩ := List.mem_map.mp hx
    exact line_len (h d hd).small
  rw [List.length_map] at b l
  unfold pageT
  omega
theorem line_ok {ds : List Deed} (h : ∀ d ∈ ds, Rt d) : ∀ x ∈ lines0 (pageT ds), LineOk 0 x := by
  rw [lines_back h]
  intro x hx
  obtain ⟨d, hd, rfl⟩ := List.mem_map.mp hx
  exact ⟨by have := line_len (h d hd).small; omega, fun c hc => (line_sign (h d hd) c hc).2⟩
theorem bent_page {us : List Str} {n : Nat} (hn : n ≤ 2) (few : us.length ≤ 20) (h : ∀ x ∈ us, LineOk n x) : (joinW (Str.ofString "\n") us).length ≤ 2000 ∧ Fit (joinW (Str.ofString "\n") us) ∧ (us.map (·.length)).sum + us.length * (Str.ofString "\n").length ≤ 16777216 := by
  have l := joinW_len line_tl us
  have b := sum_bound (fun s : Str => s.length) (n := 70) (xs := us) fun x hx => by have := (h x hx).len; omega
  have c : us.length * 70 ≤ 20 * 70 := Nat.mul_le_mul_right _ few
  refine ⟨by omega, joinW_fit line_tl (by decide) fun x hx => (h x hx).fit, ?_⟩
  rw [len1Nl]
  omega
theorem due_inr_small {t : Str} {ds : List Deed} (ht : t.length ≤ 2000) (h : due t = .inr ds) : (∀ d ∈ ds, Small d) ∧ ds.length ≤ 2001 := by
  have z := scan_small _ _ _ _ h fun _ hd => (nomatch hd)
  have l := lines0_len ht
  refine ⟨z.1, ?_⟩
  rw [z.2, List.length_nil]
  omega
theorem due_inl_small {t : Str} {i j : Nat} (ht : t.length ≤ 2000) (h : due t = .inl (i, j)) : i ≤ 10000 ∧ j ≤ 10000 := by
  have z := scan_le _ _ _ _ h
  have l := lines0_len ht
  exact ⟨by have := z.1; simp only at this; omega, by have := z.2; simp only at this; omega⟩
def texts6 : List Str := [Str.ofString "", Str.ofString "\n", Str.ofString "settle\n", Str.ofString "open d k\nclose 01", Str.ofString "move", Str.ofString "settle x"]
def res6 : List (Option (Nat × Nat)) := [none, some (0, 0), some (1, 0), some (1, 1), some (0, 1), some (0, 1)]
def toDue : Option (Nat × Nat) → (Nat × Nat) ⊕ List Deed
  | none => .inr []
  | some p => .inl p
theorem dues6 : texts6.map due = res6.map toDue := by decide +kernel
theorem due7 : due (Str.ofString "settle\nclose 1_0") = .inl (1, 1) := by decide +kernel
theorem lens6 : ∀ t ∈ texts6, t.length ≤ 2000 := by decide +kernel
def pdR : Option (Nat × Nat) → PyData
  | none => .list []
  | some p => pt p.1 p.2
def atR (H : Hp) (t : Addr) : Option (Nat × Nat) → Prop
  | none => H t = some (.lst [])
  | some p => H t = some (.tup [.int (p.1 : Nat), .int (p.2 : Nat)])
inductive TRes (D : Addr) (H : Hp) : List Addr → List (Option (Nat × Nat)) → Prop
  | nil : TRes D H [] []
  | cons {t : Addr} {ts : List Addr} {r : Option (Nat × Nat)} {rs : List (Option (Nat × Nat))} : t ≠ D → atR H t r → TRes D H ts rs → TRes D H (t :: ts) (r :: rs)
theorem TRes.same {D : Addr} {H H' : Hp} (s : Same H H') : ∀ {ts : List Addr} {rs : List (Option (Nat × Nat))}, TRes D H ts rs → TRes D H' ts rs
  | _, _, .nil => .nil
  | _, _, .cons (r := r) n h t => .cons n (by cases r <;> exact s _ _ h) (t.same s)
theorem TRes.past {D : Addr} {H : Hp} {u : HO} : ∀ {ts : List Addr} {rs : List (Option (Nat × Nat))}, TRes D H ts rs → TRes D (upd H D u) ts rs
  | _, _, .nil => .nil
  | _, _, .cons (t := t) (r := r) n h c => .cons n (by cases r <;> exact (upd_ne n).trans h) c.past
theorem TRes.snoc {D : Addr} {H : Hp} {t : Addr} {r : Option (Nat × Nat)} (n : t ≠ D) (h : atR H t r) : ∀ {ts : List Addr} {rs : List (Option (Nat × Nat))}, TRes D H ts rs → TRes D H (ts ++ [t]) (rs ++ [r])
  | _, _, .nil => .cons n h .nil
  | _, _, .cons n1 h1 c => .cons n1 h1 (c.snoc n h)
theorem TRes.dp {K : PySem.W.Frag} {D : Addr} {H : Hp} : ∀ {ts : List Addr} {rs : List (Option (Nat × Nat))}, TRes D H ts rs → DpAll K H (ts.map L2.V.ref) (rs.map pdR)
  | _, _, .nil => .nil
  | _, _, .cons (r := none) n h c => .cons (.lst (SqL.of h) .nil) c.dp
  | _, _, .cons (r := some p) n h c => .cons (pt_dp h) c.dp
theorem TRes.len {D : Addr} {H : Hp} : ∀ {ts : List Addr} {rs : List (Option (Nat × Nat))}, TRes D H ts rs → ts.length = rs.length
  | _, _, .nil => rfl
  | _, _, .cons _ _ c => congrArg (· + 1) c.len
theorem atR_mk {H : Hp} {p : Addr} {r : Option (Nat × Nat)} {t : Str} (e : due t = toDue r) (h1 : ∀ ds, due t = .inr ds → RowL H p ds) (h2 : ∀ i j, due t = .inl (i, j) → H p = some (.tup [.int (i : Nat), .int (j : Nat)])) : atR H p r := by
  cases r with
  | none =>
    obtain ⟨ts, q1, q2⟩ := h1 [] e
    cases q2
    exact q1
  | some x =>
    obtain ⟨i, j⟩ := x
    exact h2 i j e
section
variable {P : Program} {w : World} {K : PySem.W.Frag} {mg : Str → Option Value} {base : Heap}
set_option maxHeartbeats 40000000 in
theorem ok_law (V : VF K mg) (Z : SZ K w mg) {f : Addr} {fd : FuncData} (F : Fun K "law" "law" s_law f fd) : FnG P w K mg base CX0 12 f fd ["_law_script"] (spLaw K) := by
  have G_law_pen := k_law_pen (P := P) (w := w) (base := base) V
  have G_law_draw := k_law_draw (P := P) (w := w) (base := base) V
  have G_law_pick := k_law_pick (P := P) (w := w) (base := base) V
  have G_law_deed := ok_law_deed (P := P) (w := w) (base := base) V
  have G_law_text := ok_law_text (P := P) (w := w) (base := base) V
  have G_story_text := ok_story_text (P := P) (w := w) (base := base) V
  have G_law_heard := ok_law_heard (P := P) (w := w) (base := base) V Z
  have G_read_story := ok_read_story (P := P) (w := w) (base := base) V Z
  have G_law_bent := ok_law_bent (P := P) (w := w) (base := base) V
  have G_law_due := ok_law_due (P := P) (w := w) (base := base) V
  refine fnG F sc_law (fun vs H Q E h => ?_) (fun cdv A outer s H vs Q E hg hr h => ?_)
  · obtain ⟨a, ns, rfl, _⟩ := h
    rfl
  · obtain ⟨a, ns, rfl, hS, len, k⟩ := h
    have hu := hu_of hr
    have T := V.t
    refine ⟨_, (pss_cons (ps_set (i := 1) sc_law.nd rfl (Or.inr rfl) (pe_call G_law_pen (hr.mono (by decide)) (by rfl) V.g_law_pen V.F_law_pen.kp V.b_law_pen .nil pass0 (pa_cons (pv 0) pa_nil)))
      (pss_cons (ps_for PassesOwn.never rfl (pi_range1 rfl T.range (pa_cons pe_int pa_nil)) (pg_name (i := 2) sc_law.nd rfl (Or.inl rfl)) (pss_cons (ps_setLc (i := 3) (own := [("_law_k", 4)]) (g := (gName 4)) rfl sc_law.nd rfl rfl (sw_true rfl rfl rfl (by decide +kernel)) (pi_range1 rfl T.range (pa_cons (pe_call G_law_draw (hr.mono (by decide)) (by rfl) V.g_law_draw V.F_law_draw.kp V.b_law_draw .nil pass0 (pa_cons (pv 1) (pa_cons pe_int pa_nil))) pa_nil)) (blkOk_by (own := [("_law_k", 4)]) (N := N_law) (sc := defScope s_law) (by decide +kernel)) (fun _ _ _ _ _ => (pg_name (i := 4) sc_law.nd rfl (Or.inl rfl))) (fun _ _ _ _ _ => pts_nil) (fun _ _ _ _ _ => (pe_call G_law_deed (hr.mono (by decide)) (by rfl) V.g_law_deed V.F_law_deed.kp V.b_law_deed .nil pass0 (pa_cons (pv 1) pa_nil))))
      (pss_cons (ps_set (i := 5) sc_law.nd rfl (Or.inl rfl) (pe_call G_law_text (hr.mono (by decide)) (by rfl) V.g_law_text V.F_law_text.kp V.b_law_text .nil pass0 (pa_cons (pv 3) pa_nil)))
      (pss_cons (ps_if (PW.pt (pw_or (pt_cmpR op_ne (pe_call G_story_text (hr.mono (by decide)) (by rfl) V.g_story_text V.F_story_text.kp V.b_story_text .nil pass0 (pa_cons (pv 3) pa_nil)) (pv 5) (nomark _)) (pw_or1 (pt_cmpR op_ne (pe_callK0 G_story_text (hr.mono (by decide)) (by rfl) V.g_story_text V.F_story_text.kp V.kb_story_text pass0 (pk_cons (pe_callTy call_tuple_of (by rfl) T.tuple (by decide +kernel) (pa_cons (pv 3) pa_nil)) pk_nil)) (pv 5) (nomark _))))) (pss_one (ps_ret pe_bl)) pss_nil)
      (pss_cons (ps_if (PW.pt (pw_or (pt_cmpR op_ne (pe_callB (call_repr hg (hr.units)) (by rfl) T.repr (by decide +kernel) (pa_cons (pe_call G_law_heard (hr.mono (by decide)) (by rfl) V.g_law_heard V.F_law_heard.kp V.b_law_heard .nil pass0 (pa_cons (pv 5) pa_nil)) pa_nil)) (pe_callB (call_repr hg (hr.units)) (by rfl) T.repr (by decide +kernel) (pa_cons (pv 3) pa_nil)) (nomark _)) (pw_or1 (pt_cmpR (op_neD (hr.units)) (pe_callK0 G_read_story (hr.mono (by decide)) (by rfl) V.g_read_story V.F_read_story.kp V.kb_read_story passL (pk_cons (pv 5) pk_nil)) (pe_callTy call_tuple_of (by rfl) T.tuple (by decide +kernel) (pa_cons (pv 3) pa_nil)) (nomark _))))) (pss_one (ps_ret pe_bl)) pss_nil)
      (pss_cons (ps_set (i := 6) sc_law.nd rfl (Or.inl rfl) (pe_ifExp (pt_cmpR op_ne (pv 5) pe_str (nomark _)) (pe_bm PySem.F.plainAttrs_str PySem.F.slot_str_split PySem.F.type_str_split mt_split (pv 5) (pa_cons pe_str pa_nil)) (pe_lst pa_nil)))
      (pss_cons (ps_for PassesOwn.never rfl (pi_range1 rfl T.range (pa_cons pe_int pa_nil)) (pg_name (i := 7) sc_law.nd rfl (Or.inl rfl)) (pss_cons (ps_set (i := 8) sc_law.nd rfl (Or.inl rfl) (pe_call G_law_bent (hr.mono (by decide)) (by rfl) V.g_law_bent V.F_law_bent.kp V.b_law_bent .nil pass0 (pa_cons (pv 1) (pa_cons (pv 6) pa_nil))))
      (pss_cons (ps_set (i := 8) sc_law.nd rfl (Or.inl rfl) (pe_ifExp (pt_cmpR op_eq (pe_call G_law_draw (hr.mono (by decide)) (by rfl) V.g_law_draw V.F_law_draw.kp V.b_law_draw .nil pass0 (pa_cons (pv 1) (pa_cons pe_int pa_nil))) pe_int (nomark _)) (pe_call G_law_bent (hr.mono (by decide)) (by rfl) V.g_law_bent V.F_law_bent.kp V.b_law_bent .nil pass0 (pa_cons (pv 1) (pa_cons (pv 8) pa_nil))) (pv 8)))
      (pss_cons (ps_set (i := 9) sc_law.nd rfl (Or.inl rfl) (pe_joinJ pe_str (pv 8)))
      (pss_one (ps_if (pt_cmpR op_ne (pe_callB (call_repr hg (hr.units)) (by rfl) T.repr (by decide +kernel) (pa_cons (pe_call G_law_heard (hr.mono (by decide)) (by rfl) V.g_law_heard V.F_law_heard.kp V.b_law_heard .nil pass0 (pa_cons (pv 9) pa_nil)) pa_nil)) (pe_callB (call_repr hg (hr.units)) (by rfl) T.repr (by decide +kernel) (pa_cons (pe_call G_law_due (hr.mono (by decide)) (by rfl) V.g_law_due V.F_law_due.kp V.b_law_due .nil pass0 (pa_cons (pv 9) pa_nil)) pa_nil)) (nomark _)) (pss_one (ps_ret pe_bl)) pss_nil))))))
      (pss_cons (ps_set (i := 10) sc_law.nd rfl (Or.inl rfl) (pe_call G_law_pick (hr.mono (by decide)) (by rfl) V.g_law_pick V.F_law_pick.kp V.b_law_pick .nil pass0 (pa_cons (pv 1) (pa_cons (pe_lst (pa_cons pe_non (pa_cons pe_int (pa_cons pe_bl (pa_cons (pe_tup pa_nil) (pa_cons (pe_lst (pa_cons pe_str pa_nil)) (pa_cons pe_dnewK (pa_cons (pe_tup (pa_cons pe_str pa_nil)) (pa_cons (pe_lst (pa_cons (pe_tup (pa_cons pe_str pa_nil)) pa_nil)) pa_nil))))))))) pa_nil))))
      (pss_one (ps_if (pt_cmpR (op_neD (hr.units)) (pe_call G_law_heard (hr.mono (by decide)) (by rfl) V.g_law_heard V.F_law_heard.kp V.b_law_heard .nil pass0 (pa_cons (pv 10) pa_nil)) (pe_tup (pa_cons pe_int (pa_cons pe_int pa_nil))) (nomark _)) (pss_one (ps_ret pe_bl)) pss_nil))))))))))
      (pss_cons (ps_setLc (i := 11) (own := [("_law_page", 5)]) (g := (gName 5)) rfl sc_law.nd rfl rfl (sw_true rfl rfl rfl (by decide +kernel)) (pi_tup (pe_tup (pa_cons pe_str (pa_cons pe_str (pa_cons pe_str (pa_cons pe_str (pa_cons pe_str (pa_cons pe_str pa_nil)))))))) (blkOk_by (own := [("_law_page", 5)]) (N := N_law) (sc := defScope s_law) (by decide +kernel)) (fun _ _ _ _ _ => (pg_name (i := 5) sc_law.nd rfl (Or.inl rfl))) (fun _ _ _ _ _ => pts_nil) (fun _ _ _ _ _ => (pe_call G_law_heard (hr.mono (by decide)) (by rfl) V.g_law_heard V.F_law_heard.kp V.b_law_heard .nil pass0 (pa_cons (pv 5) pa_nil))))
      (pss_cons (ps_expr (pe_bm PySem.F.plainAttrs_list PySem.F.slot_list_append PySem.F.type_list_append mt_append (pv 11) (pa_cons (pe_call G_law_heard (hr.mono (by decide)) (by rfl) V.g_law_heard V.F_law_heard.kp V.b_law_heard .nil pass0 (pa_cons pe_str pa_nil)) pa_nil)))
      (pss_one (ps_ret (pe_cmpR (op_eqD (hr.units)) (pv 11) (pe_lst (pa_cons (pe_lst pa_nil) (pa_cons (pe_tup (pa_cons pe_int (pa_cons pe_int pa_nil))) (pa_cons (pe_tup (pa_cons pe_int (pa_cons pe_int pa_nil))) (pa_cons (pe_tup (pa_cons pe_int (pa_cons pe_int pa_nil))) (pa_cons (pe_tup (pa_cons pe_int (pa_cons pe_int pa_nil))) (pa_cons (pe_tup (pa_cons pe_int (pa_cons pe_int pa_nil))) (pa_cons (pe_tup (pa_cons pe_int (pa_cons pe_int pa_nil))) pa_nil)))))))) (nomark _)))))))), ?_⟩
    try dsimp only [cxOf]
    rw [show L2.start N_law [.ref a] = [some (.ref a), none, none, none, none, none, none, none, none, none, none, none] from rfl]
    walk_at "hline"
    refine ⟨a, ns, rfl, hS, len, ?_⟩
    intro q H1 nq P1 s1
    clear hS s1
    walk_at "hx"
    refine g_seq ?_
    walk_at "hx"
    refine g_rng (by decide) (by decide) ?_
    refine for_range (n := 5) (fun i σ' H' => (∃ y2 y3 y4 y5 y6 y7 y8 y9 y10 y11, σ' = [some (.ref a), some (.ref q), y2, y3, y4, y5, y6, y7, y8, y9, y10, y11]) ∧ Pen H' q (1000 * i)) ⟨⟨none, none, none, none, none, none, none, none, none, none, rfl⟩, P1⟩ ?_ ?_
    · rintro i σ' H2 hi ⟨⟨y2, y3, y4, y5, y6, y7, y8, y9, y10, y11, rfl⟩, P2⟩
      walk_at "hx"
      refine g_seq ?_
      walk_at "hx"
      refine ⟨q, 13, 1000 * i, rfl, P2, by omega, by decide, by decide, ?_⟩
      intro d H3 d0 d1 P3 t3
      clear P2 t3
      walk_at "hx"
      refine g_rng (by omega) (by omega) ?_
      intro D hD
      have nD : D ≠ q := P3.ne hD
      refine lc_range (n := d.toNat) (fun j H' => ∃ (ts : List Addr) (ds : List Deed), Led q (1000 * i + 1 + 60 * j) H3 H' ∧ H' D = some (.lst (ts.map L2.V.ref)) ∧ Cells H' ts ds ∧ ds.length = j ∧ ∀ d ∈ ds, Rt d) ⟨[], [], (Led.start P3).new hD, upd_same, .nil, rfl, fun _ h => (nomatch h)⟩ ?_ ?_
      · rintro j H4 hj ⟨ts, ds, L4, hD4, cs, dl, rts⟩
        walk_at "hx"
        refine ⟨rfl, ?_⟩
        walk_at "hx"
        refine ⟨q, _, rfl, L4.pen, by omega, fun dd t H5 rt ht ntq L5 ht5 => ?_⟩
        have hD5 := L5.but.st _ _ nD hD4
        obtain ⟨qs, hqs⟩ := L4.pen.at
        refine ⟨_, hD5, ?_, ts ++ [t], ds ++ [dd], ((L4.then L5).put P3 hD).more (by omega), by rw [upd_same, List.map_append]; rfl, Cells.past hD5 ((cs.but hqs L5.but).snoc ht5), by rw [List.length_append, dl]; rfl, fun d hd => ?_⟩
        · rw [List.length_map, cs.len, dl]
          exact Nat.lt_of_lt_of_le (show j < 1000 by omega) (by decide)
        · rcases List.mem_append.mp hd with z | z
          · exact rts d z
          · rw [List.mem_singleton.mp z]; exact rt
      · rintro H4 ⟨ts, ds, L4, hD4, cs, dl, rts⟩
        have few : ds.length ≤ 12 := by omega
        have P4 : Pen H4 q (1000 * i + 800) := L4.pen.more (by omega)
        have row : RowL H4 D ds := ⟨ts, hD4, cs⟩
        clear L4 cs hD4 P3 hD dl
        have sml : ∀ d ∈ ds, Small d := fun d hd => (rts d hd).small
        have psm := page_small few rts
        have pshow := pd_show sml (by omega)
        have db := due_back rts
        have lok := line_ok rts
        have lb := lines_back rts
        have lfew : (lines0 (pageT ds)).length ≤ 12 := by rw [lb, List.length_map]; exact few
        walk_at "hx"
        refine g_seq ?_
        walk_at "hx"
        refine ⟨D, ds, rfl, row, by omega, sml, fun H5 s5 => ?_⟩
        have P5 := P4.same s5
        have row5 := row.same s5
        clear P4 row s5
        generalize hpg : pageT ds = pg at psm db lok lb lfew ⊢
        walk_at "hx"
        refine g_seq ?_
        walk_at "hx"
        refine ⟨D, ds, rfl, .inl row5, by omega, sml, fun H6 s6 => ?_⟩
        rw [hpg]
        have P6 := P5.same s6
        have row6 := row5.same s6
        clear P5 row5 s6
        walk_at "hx"
        refine g_false (by simp) ?_
        walk_at "hx"
        obtain ⟨tsD, eD, csD⟩ := id row6
        refine ⟨D, _, rfl, .inl ⟨SqL.of eD, fun l hl => ?_⟩⟩
        have sl := same_new (o := .tup (tsD.map L2.V.ref)) hl
        have rowT : RowT (upd H6 l (.tup (tsD.map L2.V.ref))) l ds := ⟨tsD, upd_same, csD.same sl⟩
        have P7 := P6.same sl
        have row7 := row6.same sl
        generalize upd H6 l (.tup (tsD.map L2.V.ref)) = H7 at rowT P7 row7 ⊢
        clear P6 row6 sl hl eD csD
        walk_at "hx"
        refine ⟨l, ds, rfl, .inr rowT, by omega, sml, fun H8 s8 => ?_⟩
        rw [hpg]
        have P8 := P7.same s8
        have row8 := row7.same s8
        clear P7 row7 s8 rowT
        walk_at "hx"
        refine g_false (by simp) ?_
        walk_at "hx"
        refine g_seq ?_
        walk_at "hx"
        refine ⟨.str pg, rfl, .inl ⟨pg, rfl, psm, fun ds' p H9 du hp s9 row9 => ?_, fun i' j' p H' du => (by rw [db] at du; cases du)⟩⟩
        have ed : ds = ds' := by rw [db] at du; exact Sum.inr.inj du
        subst ed
        have P9 := P8.same s9
        have row9' := row8.same s9
        clear P8 row8 s9 hp du
        walk_at "hx"
        refine g_repr (pd ds) row9.dp pshow ?_
        walk_at "hx"
        refine g_repr (pd ds) row9'.dp pshow ?_
        walk_at "hx"
        refine g_false (by simp) ?_
        clear row9 p
        walk_at "hx"
        refine ⟨.str pg, rfl, .inl ⟨pg, rfl, psm, fun ds' p H10 du hp s10 row10 => ?_, fun i' j' du => (by rw [db] at du; cases du)⟩⟩
        have ed : ds = ds' := by rw [db] at du; exact Sum.inr.inj du
        subst ed
        have P10 := P9.same s10
        have row10' := row9'.same s10
        clear P9 row9' s10 hp du
        walk_at "hx"
        obtain ⟨tsE, eE, csE⟩ := id row10'
        refine ⟨D, _, rfl, .inl ⟨SqL.of eE, fun l2 hl2 => ?_⟩⟩
        have sl2 := same_new (o := .tup (tsE.map L2.V.ref)) hl2
        have rowT2 : RowT (upd H10 l2 (.tup (tsE.map L2.V.ref))) l2 ds := ⟨tsE, upd_same, csE.same sl2⟩
        have P11 := P10.same sl2
        have row11 := row10.same sl2
        generalize upd H10 l2 (.tup (tsE.map L2.V.ref)) = H11 at rowT2 P11 row11 ⊢
        clear P10 row10 row10' sl2 hl2 eE csE
        refine g_neD row11.dp rowT2.dp (tup_shaped sml) (tup_shaped sml) ?_
        rw [tup_eqv]
        walk_at "hx"
        clear rowT2 row11
        refine g_cut (fun σ' H' => ∃ (L : Addr) (y4 : Option L2.V), σ' = [some (.ref a), some (.ref q), some (.int (0 + (i : Int))), some (.ref D), y4, some (.str pg), some (.ref L), y7, y8, y9, y10, y11] ∧ Pen H' q (1000 * i + 800) ∧ L ≠ q ∧ H' L = some (.lst ((lines0 pg).map L2.V.str))) ?_ ?_
        · rintro σ' H12 ⟨L, y4', rfl, P12, nL, hL⟩
          generalize hls : lines0 pg = ls at lok lfew hL
          clear lb
          refine g_seq ?_
          walk_at "hx"
          refine g_rng (by decide) (by decide) ?_
          refine for_range (n := 7) (fun j σ' H' => (∃ z7 z8 z9, σ' = [some (.ref a), some (.ref q), some (.int (0 + (i : Int))), some (.ref D), y4', some (.str pg), some (.ref L), z7, z8, z9, y10, y11]) ∧ Pen H' q (1000 * i + 800 + 11 * j) ∧ H' L = some (.lst (ls.map L2.V.str))) ⟨⟨y7, y8, y9, rfl⟩, P12, hL⟩ ?_ ?_
          · rintro j σ' H13 hj ⟨⟨z7, z8, z9, rfl⟩, P13, hL13⟩
            walk_at "hx"
            refine g_seq ?_
            walk_at "hx"
            refine ⟨q, L, _, 0, ls, rfl, P13, by omega, nL, hL13, by omega, by decide, lok, fun p us H14 npq hp L14 e14 ln1 ok1 => ?_⟩
            have hL14 := L14.but.st _ _ nL hL13
            have P14 := L14.pen
            clear hp L14 P13 hL13
            walk_at "hx"
            refine g_cut (fun σ' H' => ∃ (p' : Addr) (us' : List Str), σ' = [some (.ref a), some (.ref q), some (.int (0 + (i : Int))), some (.ref D), y4', some (.str pg), some (.ref L), some (.int (0 + (j : Int))), some (.ref p'), z9, y10, y11] ∧ Pen H' q (1000 * i + 800 + 11 * (j + 1)) ∧ H' L = some (.lst (ls.map L2.V.str)) ∧ H' p' = some (.lst (us'.map L2.V.str)) ∧ us'.length ≤ 20 ∧ ∀ x ∈ us', LineOk 2 x) ?_ ?_
            · rintro σ' H15 ⟨p', us', rfl, P15, hL15, e15, ln2, ok2⟩
              obtain ⟨bl, bf, bs⟩ := bent_page (n := 2) (by decide) ln2 ok2
              walk_at "hx"
              refine g_seq ?_
              walk_at "hx"
              refine g_join (SqL.of e15) bs ?_
              rw [show Txt.join (Str.ofString "\n") us' = joinW (Str.ofString "\n") us' from rfl]
              generalize joinW (Str.ofString "\n") us' = bt at bl bf
              walk_at "hx"
              refine ⟨.str bt, rfl, .inl ⟨bt, rfl, bl, fun ds' p1 H16 du hp s16 row16 => ?_, fun i' j' p1 H16 du hp s16 e16 => ?_⟩⟩
              · obtain ⟨sm', few'⟩ := due_inr_small bl du
                have sh := pd_show sm' few'
                walk_at "hx"
                refine g_repr (pd ds') row16.dp sh ?_
                walk_at "hx"
                refine ⟨bt, rfl, bl, bf, fun ds'' p2 H17 du2 hp2 s17 row17 => ?_, fun i' j' p2 H17 du2 => (by rw [du] at du2; cases du2)⟩
                have e2 : ds' = ds'' := by rw [du] at du2; exact Sum.inr.inj du2
                subst e2
                walk_at "hx"
                refine g_repr (pd ds') row17.dp sh ?_
                walk_at "hx"
                refine g_false (by simp) ?_
                walk_at "hx"
                exact ⟨⟨_, _, _, rfl⟩, (P15.same s16).same s17, s17 _ _ (s16 _ _ hL15)⟩
              · obtain ⟨hi', hj'⟩ := due_inl_small bl du
                have sh := pt_show hi' hj'
                walk_at "hx"
                refine g_repr (pt i' j') (pt_dp e16) sh ?_
                walk_at "hx"
                refine ⟨bt, rfl, bl, bf, fun ds'' p2 H17 du2 => (by rw [du] at du2; cases du2), fun i2 j2 p2 H17 du2 hp2 s17 e17 => ?_⟩
                have e2 : (i', j') = (i2, j2) := by rw [du] at du2; exact Sum.inl.inj du2
                cases e2
                walk_at "hx"
                refine g_repr (pt i' j') (pt_dp e17) sh ?_
                walk_at "hx"
                refine g_false (by simp) ?_
                walk_at "hx"
                exact ⟨⟨_, _, _, rfl⟩, (P15.same s16).same s17, s17 _ _ (s16 _ _ hL15)⟩
            · intro R hR
              walk_at "hx"
              refine ⟨q, 3, _, rfl, P14, by omega, by decide, by decide, ?_⟩
              intro d2 H15 d20 d21 P15 t15
              have hL15 := t15.st _ _ nL hL14
              have e15 := t15.st _ _ npq e14
              walk_at "hx"
              by_cases c : d2 = 0
              · refine g_true (by rw [c]; rfl) ?_
                walk_at "hx"
                refine ⟨q, p, _, 1, us, rfl, P15, by omega, npq, e15, by omega, by decide, ok1, fun p3 us3 H16 np3 hp3 L16 e16 ln3 ok3 => ?_⟩
                walk_at "hx"
                exact hR _ _ ⟨p3, us3, rfl, L16.pen.more (by omega), L16.but.st _ _ nL hL15, e16, by omega, ok3⟩
              · refine g_false (by simp only [decide_eq_false_iff_not, L2.V.int.injEq]; exact c) ?_
                walk_at "hx"
                exact hR _ _ ⟨p, us, rfl, P15.more (by omega), hL15, e15, by omega, fun x hx => (ok1 x hx).more⟩
          · rintro σ' H13 ⟨⟨z7, z8, z9, rfl⟩, P13, hL13⟩
            clear hL13 hL P12
            walk_at "hx"
            refine g_seq ?_
            walk_at "hx"
            have P20 := P13
            intro o1 zo1
            have no1 : o1 ≠ q := P20.ne zo1
            have so1 : Same H13 (upd H13 o1 (.tup [])) := same_new zo1
            have fo1 : upd H13 o1 (.tup []) o1 = some (.tup []) := upd_same
            replace P20 := P20.same so1
            generalize upd H13 o1 (.tup []) = H20 at so1 fo1 P20 ⊢
            clear so1 zo1
            walk_at "hx"
            intro o2 zo2
            have no2 : o2 ≠ q := P20.ne zo2
            have so2 : Same H20 (upd H20 o2 (.lst [L2.V.str (Str.ofString "settle")])) := same_new zo2
            have fo2 : upd H20 o2 (.lst [L2.V.str (Str.ofString "settle")]) o2 = some (.lst [L2.V.str (Str.ofString "settle")]) := upd_same
            replace fo1 := so2 _ _ fo1
            replace P20 := P20.same so2
            generalize upd H20 o2 (.lst [L2.V.str (Str.ofString "settle")]) = H21 at so2 fo1 fo2 P20 ⊢
            clear so2 zo2
            walk_at "hx"
            intro o3 zo3
            have no3 : o3 ≠ q := P20.ne zo3
            have so3 : Same H21 (upd H21 o3 (.dK [])) := same_new zo3
            have fo3 : upd H21 o3 (.dK []) o3 = some (.dK []) := upd_same
            replace fo1 := so3 _ _ fo1
            replace fo2 := so3 _ _ fo2
            replace P20 := P20.same so3
            generalize upd H21 o3 (.dK []) = H22 at so3 fo1 fo2 fo3 P20 ⊢
            clear so3 zo3
            walk_at "hx"
            intro o4 zo4
            have no4 : o4 ≠ q := P20.ne zo4
            have so4 : Same H22 (upd H22 o4 (.tup [L2.V.str (Str.ofString "settle")])) := same_new zo4
            have fo4 : upd H22 o4 (.tup [L2.V.str (Str.ofString "settle")]) o4 = some (.tup [L2.V.str (Str.ofString "settle")]) := upd_same
            replace fo1 := so4 _ _ fo1
            replace fo2 := so4 _ _ fo2
            replace fo3 := so4 _ _ fo3
            replace P20 := P20.same so4
            generalize upd H22 o4 (.tup [L2.V.str (Str.ofString "settle")]) = H23 at so4 fo1 fo2 fo3 fo4 P20 ⊢
            clear so4 zo4
            walk_at "hx"
            intro o5 zo5
            have no5 : o5 ≠ q := P20.ne zo5
            have so5 : Same H23 (upd H23 o5 (.tup [L2.V.str (Str.ofString "settle")])) := same_new zo5
            have fo5 : upd H23 o5 (.tup [L2.V.str (Str.ofString "settle")]) o5 = some (.tup [L2.V.str (Str.ofString "settle")]) := upd_same
            replace fo1 := so5 _ _ fo1
            replace fo2 := so5 _ _ fo2
            replace fo3 := so5 _ _ fo3
            replace fo4 := so5 _ _ fo4
            replace P20 := P20.same so5
            generalize upd H23 o5 (.tup [L2.V.str (Str.ofString "settle")]) = H24 at so5 fo1 fo2 fo3 fo4 fo5 P20 ⊢
            clear so5 zo5
            walk_at "hx"
            intro o6 zo6
            have no6 : o6 ≠ q := P20.ne zo6
            have so6 : Same H24 (upd H24 o6 (.lst [L2.V.ref o5])) := same_new zo6
            have fo6 : upd H24 o6 (.lst [L2.V.ref o5]) o6 = some (.lst [L2.V.ref o5]) := upd_same
            replace fo1 := so6 _ _ fo1
            replace fo2 := so6 _ _ fo2
            replace fo3 := so6 _ _ fo3
            replace fo4 := so6 _ _ fo4
            replace fo5 := so6 _ _ fo5
            replace P20 := P20.same so6
            generalize upd H24 o6 (.lst [L2.V.ref o5]) = H25 at so6 fo1 fo2 fo3 fo4 fo5 fo6 P20 ⊢
            clear so6 zo6
            walk_at "hx"
            intro o7 zo7
            have no7 : o7 ≠ q := P20.ne zo7
            have so7 : Same H25 (upd H25 o7 (.lst [L2.V.non, L2.V.int 0, L2.V.bl true, L2.V.ref o1, L2.V.ref o2, L2.V.ref o3, L2.V.ref o4, L2.V.ref o6])) := same_new zo7
            have fo7 : upd H25 o7 (.lst [L2.V.non, L2.V.int 0, L2.V.bl true, L2.V.ref o1, L2.V.ref o2, L2.V.ref o3, L2.V.ref o4, L2.V.ref o6]) o7 = some (.lst [L2.V.non, L2.V.int 0, L2.V.bl true, L2.V.ref o1, L2.V.ref o2, L2.V.ref o3, L2.V.ref o4, L2.V.ref o6]) := upd_same
            replace fo1 := so7 _ _ fo1
            replace fo2 := so7 _ _ fo2
            replace fo3 := so7 _ _ fo3
            replace fo4 := so7 _ _ fo4
            replace fo5 := so7 _ _ fo5
            replace fo6 := so7 _ _ fo6
            replace P20 := P20.same so7
            generalize upd H25 o7 (.lst [L2.V.non, L2.V.int 0, L2.V.bl true, L2.V.ref o1, L2.V.ref o2, L2.V.ref o3, L2.V.ref o4, L2.V.ref o6]) = H26 at so7 fo1 fo2 fo3 fo4 fo5 fo6 fo7 P20 ⊢
            clear so7 zo7
            walk_at "hx"
            clear P13
            refine ⟨q, .ref o7, _, rfl, P20, by omega, .inl ⟨o7, _, rfl, no7, fo7, by simp, by simp, fun v H30 hv P30 t30 => ?_⟩⟩
            replace fo1 := t30.st _ _ no1 fo1
            replace fo2 := t30.st _ _ no2 fo2
            replace fo3 := t30.st _ _ no3 fo3
            replace fo4 := t30.st _ _ no4 fo4
            replace fo5 := t30.st _ _ no5 fo5
            replace fo6 := t30.st _ _ no6 fo6
            replace fo7 := t30.st _ _ no7 fo7
            walk_at "hx"
            have ns : NotS K H30 v := by
              simp only [List.mem_cons, List.not_mem_nil, or_false] at hv
              rcases hv with rfl | rfl | rfl | rfl | rfl | rfl | rfl | rfl
              · exact ⟨_, .base .non, kit_ty (by decide +kernel)⟩
              · exact ⟨_, .base (.int _), kit_ty (by decide +kernel)⟩
              · exact ⟨_, .base (.bl _), kit_ty (by decide +kernel)⟩
              · exact ⟨_, .base (.tup fo1), kit_ty (by decide +kernel)⟩
              · exact ⟨_, .base (.lst fo2), kit_ty (by decide +kernel)⟩
              · exact ⟨_, .base (.dK fo3), kit_ty (by decide +kernel)⟩
              · exact ⟨_, .base (.tup fo4), kit_ty (by decide +kernel)⟩
              · exact ⟨_, .base (.lst fo6), kit_ty (by decide +kernel)⟩
            refine ⟨v, rfl, .inr ⟨ns, fun p1 H31 hp1 s31 e31 => ?_⟩⟩
            walk_at "hx"
            intro p2 hp2
            refine g_neD (pt_dp (i := 0) (j := 0) (same_new hp2 _ _ e31)) (pt_dp (i := 0) (j := 0) upd_same) (by decide +kernel) (by decide +kernel) ?_
            rw [show PyData.eqv (pt 0 0) (pt 0 0) = true by decide +kernel]
            walk_at "hx"
            exact ⟨⟨_, _, _, _, _, _, _, _, _, _, rfl⟩, ((P30.same s31).new hp2).more (by omega)⟩
        · intro R hR
          walk_at "hx"
          by_cases c : pg = Str.ofString ""
          · refine g_false (by simp [c]) ?_
            walk_at "hx"
            intro L hL
            walk_at "hx"
            exact hR _ _ ⟨L, _, rfl, P11.new hL, P11.ne hL, by rw [upd_same, show lines0 pg = [] from if_pos (c.trans emptyT)]; rfl⟩
          · refine g_true (by simp [c]) ?_
            walk_at "hx"
            refine g_bm ?_
            walk_at "hx"
            refine ⟨pg, _, rfl, rfl, len1N, Nat.le_trans (show pg.length + 2 ≤ 200000 by omega) (by decide), ?_⟩
            intro L hL
            rw [show Txt.split pg (Str.ofString "\n") = linesOf pg from rfl]
            walk_at "hx"
            exact hR _ _ ⟨L, _, rfl, P11.new hL, P11.ne hL, by rw [upd_same, show lines0 pg = linesOf pg from if_neg fun z => c (z.trans emptyT.symm)]⟩
    · rintro σ' H2 ⟨⟨y2, y3, y4, y5, y6, y7, y8, y9, y10, y11, rfl⟩, P2⟩
      clear P2
      walk_at "hx"
      refine g_seq ?_
      walk_at "hx"
      intro TP hTP
      have fTP : upd H2 TP (.tup [L2.V.str (Str.ofString ""), L2.V.str (Str.ofString "\n"), L2.V.str (Str.ofString "settle\n"), L2.V.str (Str.ofString "open d k\nclose 01"), L2.V.str (Str.ofString "move"), L2.V.str (Str.ofString "settle x")]) TP = some (.tup (texts6.map L2.V.str)) := upd_same
      generalize upd H2 TP (.tup [L2.V.str (Str.ofString ""), L2.V.str (Str.ofString "\n"), L2.V.str (Str.ofString "settle\n"), L2.V.str (Str.ofString "open d k\nclose 01"), L2.V.str (Str.ofString "move"), L2.V.str (Str.ofString "settle x")]) = H3 at fTP ⊢
      clear hTP
      walk_at "hx"
      refine g_atT (SqT.of fTP) ?_
      intro D hD
      refine lc_it walk_tup (fun k H' => ∃ ts : List Addr, H' D = some (.lst (ts.map L2.V.ref)) ∧ TRes D H' ts (res6.take k) ∧ Same H3 H') ⟨[], upd_same, .nil, same_new hD⟩ (fun _ _ _ z => SqT.of (z.choose_spec.2.2 _ _ fTP)) ?_ ?_
      · rintro k0 y H4 H5 hk ⟨ts, q1, q2, s4⟩ ⟨rfl, hy⟩
        obtain ⟨t, ht, rfl⟩ := map_at hy
        have hk6 : k0 < res6.length := hk
        have hr : res6[k0]? = some res6[k0] := List.getElem?_eq_getElem hk6
        generalize res6[k0] = r0 at hr
        have dt : due t = toDue r0 := by
          have e := congrArg (fun l : List ((Nat × Nat) ⊕ List Deed) => l[k0]?) dues6
          simp only [List.getElem?_map, ht, hr, Option.map_some] at e
          exact Option.some.inj e
        have lt0 := lens6 t (List.mem_of_getElem? ht)
        walk_at "hx"
        refine ⟨rfl, ?_⟩
        walk_at "hx"
        have fin : ∀ (p : Addr) (H6 : Hp), H5 p = none → Same H5 H6 → atR H6 p r0 → ∃ acc, H6 D = some (.lst acc) ∧ acc.length < sizeLine ∧ ∃ ts : List Addr, upd H6 D (.lst (acc ++ [L2.V.ref p])) D = some (.lst (ts.map L2.V.ref)) ∧ TRes D (upd H6 D (.lst (acc ++ [L2.V.ref p]))) ts (res6.take (k0 + 1)) ∧ Same H3 (upd H6 D (.lst (acc ++ [L2.V.ref p]))) := fun p H6 hp s6 hr6 => by
          have npD : p ≠ D := (ne_of_none q1 hp).symm
          refine ⟨_, s6 _ _ q1, ?_, ts ++ [p], by rw [upd_same, List.map_append]; rfl, ?_, same_past (same_trans s4 s6) hD⟩
          · rw [List.length_map, q2.len, List.length_take]
            exact Nat.lt_of_le_of_lt (Nat.min_le_right _ _) (by decide)
          · rw [take_snoc hr]
            exact ((q2.same s6).snoc npD hr6).past
        refine ⟨.str t, rfl, .inl ⟨t, rfl, lt0, fun ds p H6 du hp s6 row => ?_, fun i j p H6 du hp s6 e6 => ?_⟩⟩
        · exact fin p H6 hp s6 (atR_mk dt (fun ds' du' => by rw [du] at du'; cases Sum.inr.inj du'; exact row) fun i j du' => by rw [du] at du'; cases du')
        · exact fin p H6 hp s6 (atR_mk dt (fun ds' du' => by rw [du] at du'; cases du') fun i' j' du' => by rw [du] at du'; cases Sum.inl.inj du'; exact e6)
      · rintro H4 ⟨ts, q1, q2, s4⟩
        rw [List.length_map, show texts6.length = res6.length from rfl, List.take_length] at q2
        walk_at "hx"
        refine g_seq ?_
        walk_at "hx"
        refine g_bm ?_
        walk_at "hx"
        refine ⟨.inl ⟨rfl, _, SqL.of q1⟩, ?_⟩
        walk_at "hx"
        refine ⟨.str (Str.ofString "settle\nclose 1_0"), rfl, .inl ⟨_, rfl, by decide +kernel, fun ds p H6 du => (by rw [due7] at du; cases du), fun i j p H6 du hp s6 e6 => ?_⟩⟩
        rw [due7] at du
        cases Sum.inl.inj du
        have npD : p ≠ D := (ne_of_none q1 hp).symm
        have tr := ((q2.same s6).snoc (r := some (1, 1)) npD e6).past (u := .lst (ts.map L2.V.ref ++ [L2.V.ref p]))
        walk_at "hx"
        refine ⟨D, _, _, rfl, rfl, s6 _ _ q1, ?_, ?_⟩
        · rw [List.length_map, q2.len]
          exact (show 6 < sizeLine by decide)
        have dD : upd H6 D (.lst (ts.map L2.V.ref ++ [L2.V.ref p])) D = some (.lst ((ts ++ [p]).map L2.V.ref)) := by rw [upd_same, List.map_append]; rfl
        generalize upd H6 D (.lst (ts.map L2.V.ref ++ [L2.V.ref p])) = H7 at tr dD ⊢
        clear q1 q2 s4 s6 hp e6 npD hD fTP
        walk_at "hx"
        intro r0 zr0
        have sr0 : Same H7 (upd H7 r0 (.lst [])) := same_new zr0
        have fr0 : upd H7 r0 (.lst []) r0 = some (.lst []) := upd_same
        replace dD := sr0 _ _ dD
        replace tr := tr.same sr0
        generalize upd H7 r0 (.lst []) = H40 at sr0 fr0 tr dD ⊢
        clear sr0 zr0
        walk_at "hx"
        intro r1 zr1
        have sr1 : Same H40 (upd H40 r1 (.tup [L2.V.int 0, L2.V.int 0])) := same_new zr1
        have fr1 : upd H40 r1 (.tup [L2.V.int 0, L2.V.int 0]) r1 = some (.tup [L2.V.int 0, L2.V.int 0]) := upd_same
        replace fr0 := sr1 _ _ fr0
        replace dD := sr1 _ _ dD
        replace tr := tr.same sr1
        generalize upd H40 r1 (.tup [L2.V.int 0, L2.V.int 0]) = H41 at sr1 fr0 fr1 tr dD ⊢
        clear sr1 zr1
        walk_at "hx"
        intro r2 zr2
        have sr2 : Same H41 (upd H41 r2 (.tup [L2.V.int 1, L2.V.int 0])) := same_new zr2
        have fr2 : upd H41 r2 (.tup [L2.V.int 1, L2.V.int 0]) r2 = some (.tup [L2.V.int 1, L2.V.int 0]) := upd_same
        replace fr0 := sr2 _ _ fr0
        replace fr1 := sr2 _ _ fr1
        replace dD := sr2 _ _ dD
        replace tr := tr.same sr2
        generalize upd H41 r2 (.tup [L2.V.int 1, L2.V.int 0]) = H42 at sr2 fr0 fr1 fr2 tr dD ⊢
        clear sr2 zr2
        walk_at "hx"
        intro r3 zr3
        have sr3 : Same H42 (upd H42 r3 (.tup [L2.V.int 1, L2.V.int 1])) := same_new zr3
        have fr3 : upd H42 r3 (.tup [L2.V.int 1, L2.V.int 1]) r3 = some (.tup [L2.V.int 1, L2.V.int 1]) := upd_same
        replace fr0 := sr3 _ _ fr0
        replace fr1 := sr3 _ _ fr1
        replace fr2 := sr3 _ _ fr2
        replace dD := sr3 _ _ dD
        replace tr := tr.same sr3
        generalize upd H42 r3 (.tup [L2.V.int 1, L2.V.int 1]) = H43 at sr3 fr0 fr1 fr2 fr3 tr dD ⊢
        clear sr3 zr3
        walk_at "hx"
        intro r4 zr4
        have sr4 : Same H43 (upd H43 r4 (.tup [L2.V.int 0, L2.V.int 1])) := same_new zr4
        have fr4 : upd H43 r4 (.tup [L2.V.int 0, L2.V.int 1]) r4 = some (.tup [L2.V.int 0, L2.V.int 1]) := upd_same
        replace fr0 := sr4 _ _ fr0
        replace fr1 := sr4 _ _ fr1
        replace fr2 := sr4 _ _ fr2
        replace fr3 := sr4 _ _ fr3
        replace dD := sr4 _ _ dD
        replace tr := tr.same sr4
        generalize upd H43 r4 (.tup [L2.V.int 0, L2.V.int 1]) = H44 at sr4 fr0 fr1 fr2 fr3 fr4 tr dD ⊢
        clear sr4 zr4
        walk_at "hx"
        intro r5 zr5
        have sr5 : Same H44 (upd H44 r5 (.tup [L2.V.int 0, L2.V.int 1])) := same_new zr5
        have fr5 : upd H44 r5 (.tup [L2.V.int 0, L2.V.int 1]) r5 = some (.tup [L2.V.int 0, L2.V.int 1]) := upd_same
        replace fr0 := sr5 _ _ fr0
        replace fr1 := sr5 _ _ fr1
        replace fr2 := sr5 _ _ fr2
        replace fr3 := sr5 _ _ fr3
        replace fr4 := sr5 _ _ fr4
        replace dD := sr5 _ _ dD
        replace tr := tr.same sr5
        generalize upd H44 r5 (.tup [L2.V.int 0, L2.V.int 1]) = H45 at sr5 fr0 fr1 fr2 fr3 fr4 fr5 tr dD ⊢
        clear sr5 zr5
        walk_at "hx"
        intro r6 zr6
        have sr6 : Same H45 (upd H45 r6 (.tup [L2.V.int 1, L2.V.int 1])) := same_new zr6
        have fr6 : upd H45 r6 (.tup [L2.V.int 1, L2.V.int 1]) r6 = some (.tup [L2.V.int 1, L2.V.int 1]) := upd_same
        replace fr0 := sr6 _ _ fr0
        replace fr1 := sr6 _ _ fr1
        replace fr2 := sr6 _ _ fr2
        replace fr3 := sr6 _ _ fr3
        replace fr4 := sr6 _ _ fr4
        replace fr5 := sr6 _ _ fr5
        replace dD := sr6 _ _ dD
        replace tr := tr.same sr6
        generalize upd H45 r6 (.tup [L2.V.int 1, L2.V.int 1]) = H46 at sr6 fr0 fr1 fr2 fr3 fr4 fr5 fr6 tr dD ⊢
        clear sr6 zr6
        walk_at "hx"
        intro rr zrr
        have srr : Same H46 (upd H46 rr (.lst [L2.V.ref r0, L2.V.ref r1, L2.V.ref r2, L2.V.ref r3, L2.V.ref r4, L2.V.ref r5, L2.V.ref r6])) := same_new zrr
        have frr : upd H46 rr (.lst [L2.V.ref r0, L2.V.ref r1, L2.V.ref r2, L2.V.ref r3, L2.V.ref r4, L2.V.ref r5, L2.V.ref r6]) rr = some (.lst [L2.V.ref r0, L2.V.ref r1, L2.V.ref r2, L2.V.ref r3, L2.V.ref r4, L2.V.ref r5, L2.V.ref r6]) := upd_same
        replace fr0 := srr _ _ fr0
        replace fr1 := srr _ _ fr1
        replace fr2 := srr _ _ fr2
        replace fr3 := srr _ _ fr3
        replace fr4 := srr _ _ fr4
        replace fr5 := srr _ _ fr5
        replace fr6 := srr _ _ fr6
        replace dD := srr _ _ dD
        replace tr := tr.same srr
        generalize upd H46 rr (.lst [L2.V.ref r0, L2.V.ref r1, L2.V.ref r2, L2.V.ref r3, L2.V.ref r4, L2.V.ref r5, L2.V.ref r6]) = H47 at srr fr0 fr1 fr2 fr3 fr4 fr5 fr6 frr tr dD ⊢
        clear srr zrr
        walk_at "hx"
        refine g_eqD (d := .list ((res6 ++ [some (1, 1)]).map pdR)) (.lst (SqL.of dD) tr.dp) (.lst (SqL.of frr) (.cons (.lst (SqL.of fr0) .nil) (.cons (pt_dp (i := 0) (j := 0) fr1) (.cons (pt_dp (i := 1) (j := 0) fr2) (.cons (pt_dp (i := 1) (j := 1) fr3) (.cons (pt_dp (i := 0) (j := 1) fr4) (.cons (pt_dp (i := 0) (j := 1) fr5) (.cons (pt_dp (i := 1) (j := 1) fr6) .nil)))))))) (by decide +kernel) (by decide +kernel) ?_
        rw [show (PyData.list (List.map pdR (res6 ++ [some (1, 1)]))).eqv (PyData.list [PyData.list [], pt 0 0, pt 1 0, pt 1 1, pt 0 1, pt 0 1, pt 1 1]) = true by decide +kernel]
        refine g_rt ?_
        exact k _
end

theorem kit_self {K : PySem.W.Frag} {C : Addr} : PySem.W.kitOne K (.ref C) (.ref C) = some true := by unfold PySem.W.kitOne; rw [if_pos (beq_self_eq_true _)]
theorem kit_ref {K : PySem.W.Frag} {C D : Addr} {b : Bool} (ne : (Value.ref C == Value.ref D) = false) (hd : PySem.W.hasDictIn K D = true) (ty : PySem.W.typeIn K (.ref D) = some (.type "type")) (h : PySem.W.subIn K (.ref C) (.ref D) = some b) : PySem.W.kitOne K (.ref C) (.ref D) = some b := by
  obtain ⟨cd, hc, _⟩ := PySem.W.any_some hd
  have e2 : ((PySem.W.clsIn K D).isSome && PySem.W.typeIn K (.ref D) == some (.type "type")) = true := by rw [hc, ty] <;> rfl
  unfold PySem.W.kitOne
  rw [if_neg (by rw [ne]; decide)]
  show (if ((PySem.W.clsIn K D).isSome && PySem.W.typeIn K (.ref D) == some (.type "type")) = true then PySem.W.subIn K (.ref C) (.ref D) else none) = some b
  rw [if_pos e2]
  exact h
theorem exm_two {K : PySem.W.Frag} {cls a b : Value} {x y : Bool} (h1 : PySem.W.exmOne K cls a = some x) (h2 : PySem.W.exmOne K cls b = some y) : PySem.W.exmAny K cls [a, b] = some (x || (y || false)) := by
  have e0 : PySem.W.exmAny K cls [] = some false := rfl
  have e1 : PySem.W.exmAny K cls [b] = some (y || false) := by
    show (match PySem.W.exmOne K cls b, PySem.W.exmAny K cls [] with | some b, some d => some (b || d) | _, _ => none) = _
    rw [h2, e0]
  show (match PySem.W.exmOne K cls a, PySem.W.exmAny K cls [b] with | some b, some d => some (b || d) | _, _ => none) = _
  rw [h1, e1]
theorem all_mk {P : Program} {w : World} {K : PySem.W.Frag} {h : Heap} {mg : Str → Option Value} {fa : Addr} (X : K.In h) (G : h.Ns mainGlobals mg) (hfa : mg "law" = some (.ref fa))
    {CL CT CN CM CD dS : Addr} {vtok : Tok} {es : Array DictEntry} {esn : Nat} {fIN fLO fRN fST fRS fRD fLP fLD fLK fLW fLT fLE fLX fLI fLQ fLU fLR fLB fNI fWA fNA fNB fCA fEA fTI fLaw : Addr} {xnm xq : Str} {xN : Addr} {xbs : List Value} {xsn : List Str} {xsub : List Value} {xab : Bool} {xcol : Option Bool} {xdd : Option Addr} {m0 m1 m2 m3 m5 : Option Value} {ocIN kVIN docIN pmIN cdIN ctIN : Value} {odIN anIN : Option Addr} {slIN : Array (Option Value)} {ocLO kVLO docLO pmLO cdLO ctLO : Value} {odLO anLO : Option Addr} {slLO : Array (Option Value)} {ocRN kVRN docRN pmRN cdRN ctRN : Value} {odRN anRN : Option Addr} {slRN : Array (Option Value)} {ocST kVST docST pmST cdST ctST : Value} {odST anST : Option Addr} {slST : Array (Option Value)} {ocRS kVRS docRS pmRS cdRS ctRS : Value} {odRS anRS : Option Addr} {slRS : Array (Option Value)} {ocRD kVRD docRD pmRD cdRD ctRD : Value} {odRD anRD : Option Addr} {slRD : Array (Option Value)} {ocLP kVLP docLP pmLP cdLP ctLP : Value} {odLP anLP : Option Addr} {slLP : Array (Option Value)} {ocLD kVLD docLD pmLD cdLD ctLD : Value} {odLD anLD : Option Addr} {slLD : Array (Option Value)} {ocLK kVLK docLK pmLK cdLK ctLK : Value} {odLK anLK : Option Addr} {slLK : Array (Option Value)} {ocLW kVLW docLW pmLW cdLW ctLW : Value} {odLW anLW : Option Addr} {slLW : Array (Option Value)} {ocLT kVLT docLT pmLT cdLT ctLT : Value} {odLT anLT : Option Addr} {slLT : Array (Option Value)} {ocLE kVLE docLE pmLE cdLE ctLE : Value} {odLE anLE : Option Addr} {slLE : Array (Option Value)} {ocLX kVLX docLX pmLX cdLX ctLX : Value} {odLX anLX : Option Addr} {slLX : Array (Option Value)} {ocLI kVLI docLI pmLI cdLI ctLI : Value} {odLI anLI : Option Addr} {slLI : Array (Option Value)} {ocLQ kVLQ docLQ pmLQ cdLQ ctLQ : Value} {odLQ anLQ : Option Addr} {slLQ : Array (Option Value)} {ocLU kVLU docLU pmLU cdLU ctLU : Value} {odLU anLU : Option Addr} {slLU : Array (Option Value)} {ocLR kVLR docLR pmLR cdLR ctLR : Value} {odLR anLR : Option Addr} {slLR : Array (Option Value)} {ocLB kVLB docLB pmLB cdLB ctLB : Value} {odLB anLB : Option Addr} {slLB : Array (Option Value)} {ocLaw kVLaw docLaw pmLaw cdLaw ctLaw : Value} {odLaw anLaw : Option Addr} {slLaw : Array (Option Value)} {ocNI kVNI docNI pmNI cdNI ctNI : Value} {odNI anNI : Option Addr} {slNI : Array (Option Value)} {ocWA kVWA docWA pmWA cdWA ctWA : Value} {odWA anWA : Option Addr} {slWA : Array (Option Value)} {ocNA kVNA docNA pmNA cdNA ctNA : Value} {odNA anNA : Option Addr} {slNA : Array (Option Value)} {ocNB kVNB docNB pmNB cdNB ctNB : Value} {odNB anNB : Option Addr} {slNB : Array (Option Value)} {ocCA kVCA docCA pmCA cdCA ctCA : Value} {odCA anCA : Option Addr} {slCA : Array (Option Value)} {ocEA kVEA docEA pmEA cdEA ctEA : Value} {odEA anEA : Option Addr} {slEA : Array (Option Value)} {ocTI kVTI docTI pmTI cdTI ctTI : Value} {odTI anTI : Option Addr} {slTI : Array (Option Value)}
    (aIN : PySem.W.nsIn K mainGlobals "is_name" = some (some (.ref fIN)))
    (lIN : K.lookup fIN = some ⟨ocIN, odIN, .func (PySem.W.fnOf "is_name" "is_name" (defArgs s_is_name) (defBody s_is_name) (defScope s_is_name) .none kVIN docIN pmIN anIN cdIN ctIN), slIN⟩)
    (cIN : PySem.W.codeIn K cdIN "is_name" = true)
    (kIN : PySem.W.keepIn K (.ref fIN) = true)
    (aLO : PySem.W.nsIn K mainGlobals "lines_of" = some (some (.ref fLO)))
    (lLO : K.lookup fLO = some ⟨ocLO, odLO, .func (PySem.W.fnOf "lines_of" "lines_of" (defArgs s_lines_of) (defBody s_lines_of) (defScope s_lines_of) .none kVLO docLO pmLO anLO cdLO ctLO), slLO⟩)
    (cLO : PySem.W.codeIn K cdLO "lines_of" = true)
    (kLO : PySem.W.keepIn K (.ref fLO) = true)
    (aRN : PySem.W.nsIn K mainGlobals "read_number" = some (some (.ref fRN)))
    (lRN : K.lookup fRN = some ⟨ocRN, odRN, .func (PySem.W.fnOf "read_number" "read_number" (defArgs s_read_number) (defBody s_read_number) (defScope s_read_number) .none kVRN docRN pmRN anRN cdRN ctRN), slRN⟩)
    (cRN : PySem.W.codeIn K cdRN "read_number" = true)
    (kRN : PySem.W.keepIn K (.ref fRN) = true)
    (aST : PySem.W.nsIn K mainGlobals "story_text" = some (some (.ref fST)))
    (lST : K.lookup fST = some ⟨ocST, odST, .func (PySem.W.fnOf "story_text" "story_text" (defArgs s_story_text) (defBody s_story_text) (defScope s_story_text) .none kVST docST pmST anST cdST ctST), slST⟩)
    (cST : PySem.W.codeIn K cdST "story_text" = true)
    (kST : PySem.W.keepIn K (.ref fST) = true)
    (aRS : PySem.W.nsIn K mainGlobals "read_story" = some (some (.ref fRS)))
    (lRS : K.lookup fRS = some ⟨ocRS, odRS, .func (PySem.W.fnOf "read_story" "read_story" (defArgs s_read_story) (defBody s_read_story) (defScope s_read_story) .none kVRS docRS pmRS anRS cdRS ctRS), slRS⟩)
    (cRS : PySem.W.codeIn K cdRS "read_story" = true)
    (kRS : PySem.W.keepIn K (.ref fRS) = true)
    (aRD : PySem.W.nsIn K mainGlobals "read_deed" = some (some (.ref fRD)))
    (lRD : K.lookup fRD = some ⟨ocRD, odRD, .func (PySem.W.fnOf "read_deed" "read_deed" (defArgs s_read_deed) (defBody s_read_deed) (defScope s_read_deed) .none kVRD docRD pmRD anRD cdRD ctRD), slRD⟩)
    (cRD : PySem.W.codeIn K cdRD "read_deed" = true)
    (kRD : PySem.W.keepIn K (.ref fRD) = true)
    (aLP : PySem.W.nsIn K mainGlobals "_law_pen" = some (some (.ref fLP)))
    (lLP : K.lookup fLP = some ⟨ocLP, odLP, .func (PySem.W.fnOf "_law_pen" "_law_pen" (defArgs s_law_pen) (defBody s_law_pen) (defScope s_law_pen) .none kVLP docLP pmLP anLP cdLP ctLP), slLP⟩)
    (cLP : PySem.W.codeIn K cdLP "_law_pen" = true)
    (kLP : PySem.W.keepIn K (.ref fLP) = true)
    (aLD : PySem.W.nsIn K mainGlobals "_law_draw" = some (some (.ref fLD)))
    (lLD : K.lookup fLD = some ⟨ocLD, odLD, .func (PySem.W.fnOf "_law_draw" "_law_draw" (defArgs s_law_draw) (defBody s_law_draw) (defScope s_law_draw) .none kVLD docLD pmLD anLD cdLD ctLD), slLD⟩)
    (cLD : PySem.W.codeIn K cdLD "_law_draw" = true)
    (kLD : PySem.W.keepIn K (.ref fLD) = true)
    (aLK : PySem.W.nsIn K mainGlobals "_law_pick" = some (some (.ref fLK)))
    (lLK : K.lookup fLK = some ⟨ocLK, odLK, .func (PySem.W.fnOf "_law_pick" "_law_pick" (defArgs s_law_pick) (defBody s_law_pick) (defScope s_law_pick) .none kVLK docLK pmLK anLK cdLK ctLK), slLK⟩)
    (cLK : PySem.W.codeIn K cdLK "_law_pick" = true)
    (kLK : PySem.W.keepIn K (.ref fLK) = true)
    (aLW : PySem.W.nsIn K mainGlobals "_law_word" = some (some (.ref fLW)))
    (lLW : K.lookup fLW = some ⟨ocLW, odLW, .func (PySem.W.fnOf "_law_word" "_law_word" (defArgs s_law_word) (defBody s_law_word) (defScope s_law_word) .none kVLW docLW pmLW anLW cdLW ctLW), slLW⟩)
    (cLW : PySem.W.codeIn K cdLW "_law_word" = true)
    (kLW : PySem.W.keepIn K (.ref fLW) = true)
    (aLT : PySem.W.nsIn K mainGlobals "_law_tag" = some (some (.ref fLT)))
    (lLT : K.lookup fLT = some ⟨ocLT, odLT, .func (PySem.W.fnOf "_law_tag" "_law_tag" (defArgs s_law_tag) (defBody s_law_tag) (defScope s_law_tag) .none kVLT docLT pmLT anLT cdLT ctLT), slLT⟩)
    (cLT : PySem.W.codeIn K cdLT "_law_tag" = true)
    (kLT : PySem.W.keepIn K (.ref fLT) = true)
    (aLE : PySem.W.nsIn K mainGlobals "_law_deed" = some (some (.ref fLE)))
    (lLE : K.lookup fLE = some ⟨ocLE, odLE, .func (PySem.W.fnOf "_law_deed" "_law_deed" (defArgs s_law_deed) (defBody s_law_deed) (defScope s_law_deed) .none kVLE docLE pmLE anLE cdLE ctLE), slLE⟩)
    (cLE : PySem.W.codeIn K cdLE "_law_deed" = true)
    (kLE : PySem.W.keepIn K (.ref fLE) = true)
    (aLX : PySem.W.nsIn K mainGlobals "_law_text" = some (some (.ref fLX)))
    (lLX : K.lookup fLX = some ⟨ocLX, odLX, .func (PySem.W.fnOf "_law_text" "_law_text" (defArgs s_law_text) (defBody s_law_text) (defScope s_law_text) .none kVLX docLX pmLX anLX cdLX ctLX), slLX⟩)
    (cLX : PySem.W.codeIn K cdLX "_law_text" = true)
    (kLX : PySem.W.keepIn K (.ref fLX) = true)
    (aLI : PySem.W.nsIn K mainGlobals "_law_is_right" = some (some (.ref fLI)))
    (lLI : K.lookup fLI = some ⟨ocLI, odLI, .func (PySem.W.fnOf "_law_is_right" "_law_is_right" (defArgs s_law_is_right) (defBody s_law_is_right) (defScope s_law_is_right) .none kVLI docLI pmLI anLI cdLI ctLI), slLI⟩)
    (cLI : PySem.W.codeIn K cdLI "_law_is_right" = true)
    (kLI : PySem.W.keepIn K (.ref fLI) = true)
    (aLQ : PySem.W.nsIn K mainGlobals "_law_wrong_line" = some (some (.ref fLQ)))
    (lLQ : K.lookup fLQ = some ⟨ocLQ, odLQ, .func (PySem.W.fnOf "_law_wrong_line" "_law_wrong_line" (defArgs s_law_wrong_line) (defBody s_law_wrong_line) (defScope s_law_wrong_line) .none kVLQ docLQ pmLQ anLQ cdLQ ctLQ), slLQ⟩)
    (cLQ : PySem.W.codeIn K cdLQ "_law_wrong_line" = true)
    (kLQ : PySem.W.keepIn K (.ref fLQ) = true)
    (aLU : PySem.W.nsIn K mainGlobals "_law_due" = some (some (.ref fLU)))
    (lLU : K.lookup fLU = some ⟨ocLU, odLU, .func (PySem.W.fnOf "_law_due" "_law_due" (defArgs s_law_due) (defBody s_law_due) (defScope s_law_due) .none kVLU docLU pmLU anLU cdLU ctLU), slLU⟩)
    (cLU : PySem.W.codeIn K cdLU "_law_due" = true)
    (kLU : PySem.W.keepIn K (.ref fLU) = true)
    (aLR : PySem.W.nsIn K mainGlobals "_law_heard" = some (some (.ref fLR)))
    (lLR : K.lookup fLR = some ⟨ocLR, odLR, .func (PySem.W.fnOf "_law_heard" "_law_heard" (defArgs s_law_heard) (defBody s_law_heard) (defScope s_law_heard) .none kVLR docLR pmLR anLR cdLR ctLR), slLR⟩)
    (cLR : PySem.W.codeIn K cdLR "_law_heard" = true)
    (kLR : PySem.W.keepIn K (.ref fLR) = true)
    (aLB : PySem.W.nsIn K mainGlobals "_law_bent" = some (some (.ref fLB)))
    (lLB : K.lookup fLB = some ⟨ocLB, odLB, .func (PySem.W.fnOf "_law_bent" "_law_bent" (defArgs s_law_bent) (defBody s_law_bent) (defScope s_law_bent) .none kVLB docLB pmLB anLB cdLB ctLB), slLB⟩)
    (cLB : PySem.W.codeIn K cdLB "_law_bent" = true)
    (kLB : PySem.W.keepIn K (.ref fLB) = true)
    (aLaw : PySem.W.nsIn K mainGlobals "law" = some (some (.ref fLaw)))
    (lLaw : K.lookup fLaw = some ⟨ocLaw, odLaw, .func (PySem.W.fnOf "law" "law" (defArgs s_law) (defBody s_law) (defScope s_law) .none kVLaw docLaw pmLaw anLaw cdLaw ctLaw), slLaw⟩)
    (cLaw : PySem.W.codeIn K cdLaw "law" = true)
    (kLaw : PySem.W.keepIn K (.ref fLaw) = true)
    (aCL : PySem.W.nsIn K mainGlobals "Line" = some (some (.ref CL)))
    (aCT : PySem.W.nsIn K mainGlobals "InvalidText" = some (some (.ref CT)))
    (aCN : PySem.W.nsIn K mainGlobals "NetError" = some (some (.ref CN)))
    (aCM : PySem.W.nsIn K mainGlobals "MissingError" = some (some (.ref CM)))
    (aCD : PySem.W.nsIn K mainGlobals "InvalidDeed" = some (some (.ref CD)))
    (aod : PySem.W.nsIn K mainGlobals "OTHER_DIGITS" = some (some (.int 6 vtok)))
    (aS : PySem.W.nsIn K mainGlobals "SIZES" = some (some (.ref dS)))
    (lS : K.lookup dS = some ⟨.type "dict", none, .dict es esn, #[]⟩)
    (kS : PySem.W.KeysLit w.params es.toList)
    (oS : (dS == sysModules) = false)
    (eS : es.toList.map siOf = sizesL.map some)
    (mkCL : PySem.W.makesIn K CL = true)
    (kpCL : PySem.W.keepIn K (.ref CL) = true)
    (pgCL : PySem.W.plainGet K CL Str.empty = true)
    (hdCL : PySem.W.hasDictIn K CL = true)
    (poCL : PySem.W.plainOver K CL = true)
    (saCL : PySem.W.findIn K (.ref CL) "__setattr__" = some (some (.builtin "object.__setattr__")))
    (nix : PySem.W.findIn K (.ref CL) "index" = some none)
    (nwd : PySem.W.findIn K (.ref CL) "words" = some none)
    (fiNI : PySem.W.findIn K (.ref CL) "__init__" = some (some (.ref fNI)))
    (fnNI : PySem.W.isFn K (.ref fNI) = true)
    (lNI : K.lookup fNI = some ⟨ocNI, odNI, .func (PySem.W.fnOf "__init__" "Line.__init__" (defArgs s_Line___init__) (defBody s_Line___init__) (defScope s_Line___init__) .none kVNI docNI pmNI anNI cdNI ctNI), slNI⟩)
    (cNI : PySem.W.codeIn K cdNI "Line.__init__" = true)
    (kNI : PySem.W.keepIn K (.ref fNI) = true)
    (fiWA : PySem.W.findIn K (.ref CL) "word_at" = some (some (.ref fWA)))
    (fnWA : PySem.W.isFn K (.ref fWA) = true)
    (lWA : K.lookup fWA = some ⟨ocWA, odWA, .func (PySem.W.fnOf "word_at" "Line.word_at" (defArgs s_Line_word_at) (defBody s_Line_word_at) (defScope s_Line_word_at) .none kVWA docWA pmWA anWA cdWA ctWA), slWA⟩)
    (cWA : PySem.W.codeIn K cdWA "Line.word_at" = true)
    (kWA : PySem.W.keepIn K (.ref fWA) = true)
    (fiNA : PySem.W.findIn K (.ref CL) "name_at" = some (some (.ref fNA)))
    (fnNA : PySem.W.isFn K (.ref fNA) = true)
    (lNA : K.lookup fNA = some ⟨ocNA, odNA, .func (PySem.W.fnOf "name_at" "Line.name_at" (defArgs s_Line_name_at) (defBody s_Line_name_at) (defScope s_Line_name_at) .none kVNA docNA pmNA anNA cdNA ctNA), slNA⟩)
    (cNA : PySem.W.codeIn K cdNA "Line.name_at" = true)
    (kNA : PySem.W.keepIn K (.ref fNA) = true)
    (fiNB : PySem.W.findIn K (.ref CL) "name_above" = some (some (.ref fNB)))
    (fnNB : PySem.W.isFn K (.ref fNB) = true)
    (lNB : K.lookup fNB = some ⟨ocNB, odNB, .func (PySem.W.fnOf "name_above" "Line.name_above" (defArgs s_Line_name_above) (defBody s_Line_name_above) (defScope s_Line_name_above) .none kVNB docNB pmNB anNB cdNB ctNB), slNB⟩)
    (cNB : PySem.W.codeIn K cdNB "Line.name_above" = true)
    (kNB : PySem.W.keepIn K (.ref fNB) = true)
    (fiCA : PySem.W.findIn K (.ref CL) "count_at" = some (some (.ref fCA)))
    (fnCA : PySem.W.isFn K (.ref fCA) = true)
    (lCA : K.lookup fCA = some ⟨ocCA, odCA, .func (PySem.W.fnOf "count_at" "Line.count_at" (defArgs s_Line_count_at) (defBody s_Line_count_at) (defScope s_Line_count_at) .none kVCA docCA pmCA anCA cdCA ctCA), slCA⟩)
    (cCA : PySem.W.codeIn K cdCA "Line.count_at" = true)
    (kCA : PySem.W.keepIn K (.ref fCA) = true)
    (fiEA : PySem.W.findIn K (.ref CL) "end_at" = some (some (.ref fEA)))
    (fnEA : PySem.W.isFn K (.ref fEA) = true)
    (lEA : K.lookup fEA = some ⟨ocEA, odEA, .func (PySem.W.fnOf "end_at" "Line.end_at" (defArgs s_Line_end_at) (defBody s_Line_end_at) (defScope s_Line_end_at) .none kVEA docEA pmEA anEA cdEA ctEA), slEA⟩)
    (cEA : PySem.W.codeIn K cdEA "Line.end_at" = true)
    (kEA : PySem.W.keepIn K (.ref fEA) = true)
    (fiTI : PySem.W.findIn K (.ref CT) "__init__" = some (some (.ref fTI)))
    (lTI : K.lookup fTI = some ⟨ocTI, odTI, .func (PySem.W.fnOf "__init__" "InvalidText.__init__" (defArgs s_InvalidText___init__) (defBody s_InvalidText___init__) (defScope s_InvalidText___init__) .none kVTI docTI pmTI anTI cdTI ctTI), slTI⟩)
    (cTI : PySem.W.codeIn K cdTI "InvalidText.__init__" = true)
    (kTI : PySem.W.keepIn K (.ref fTI) = true)
    (cn : PySem.W.specialIn K (.builtin "object.__class__") "__get__" = some (some (.builtin "getset_descriptor.__get__")))
    (ctk : PySem.W.takesIn K (.builtin "object.__class__") = some true)
    (tTI : PySem.W.typeIn K (.ref fTI) = some (.type "function"))
    (xL : K.lookup CT = some (excClassObj xnm xq CT xN xbs [.ref CN, .type "ValueError", .type "Exception", .type "BaseException", .type "object"] true xsn xsub xab xcol xdd m0 m1 m2 m3 m5 "ValueError.__new__"))
    (saT : PySem.W.findIn K (.ref CT) "__setattr__" = some (some (.builtin "object.__setattr__")))
    (exT : PySem.W.subIn K (.ref CT) (.type "BaseException") = some true)
    (tyT : PySem.W.typeIn K (.ref CT) = some (.type "type"))
    (kpT : PySem.W.keepIn K (.ref CT) = true)
    (nlT : PySem.W.findIn K (.ref CT) "line" = some none)
    (nwT : PySem.W.findIn K (.ref CT) "word" = some none)
    (hdT : PySem.W.hasDictIn K CT = true)
    (gaT : PySem.W.findIn K (.ref CT) "__getattribute__" = some (some (.builtin "BaseException.__getattribute__")))
    (ggT : PySem.W.findIn K (.ref CT) "__getattr__" = some none)
    (caT : PySem.W.findIn K (.ref CT) "__class__" = some (some (.builtin "object.__class__")))
    (cmT : PySem.W.mroIn K CT (.type "object") = some true)
    (exCN : PySem.W.subIn K (.ref CN) (.type "BaseException") = some true)
    (tyCN : PySem.W.typeIn K (.ref CN) = some (.type "type"))
    (hdCN : PySem.W.hasDictIn K CN = true)
    (exCM : PySem.W.subIn K (.ref CM) (.type "BaseException") = some true)
    (tyCM : PySem.W.typeIn K (.ref CM) = some (.type "type"))
    (hdCM : PySem.W.hasDictIn K CM = true)
    (exCD : PySem.W.subIn K (.ref CD) (.type "BaseException") = some true)
    (tyCD : PySem.W.typeIn K (.ref CD) = some (.type "type"))
    (hdCD : PySem.W.hasDictIn K CD = true)
    (sTN : PySem.W.subIn K (.ref CT) (.ref CN) = some true)
    (sTM : PySem.W.subIn K (.ref CT) (.ref CM) = some false)
    (sTD : PySem.W.subIn K (.ref CT) (.ref CD) = some false)
    (neD : (Value.ref CT == Value.ref CD) = false)
    (neM : (Value.ref CT == Value.ref CM) = false)
    (z_int : PySem.W.nsIn K mainGlobals "int" = some none)
    (z_bool : PySem.W.nsIn K mainGlobals "bool" = some none)
    (z_len : PySem.W.nsIn K mainGlobals "len" = some none)
    (z_abs : PySem.W.nsIn K mainGlobals "abs" = some none)
    (z_list : PySem.W.nsIn K mainGlobals "list" = some none)
    (z_range : PySem.W.nsIn K mainGlobals "range" = some none)
    (z_str : PySem.W.nsIn K mainGlobals "str" = some none)
    (z_isinstance : PySem.W.nsIn K mainGlobals "isinstance" = some none)
    (z_tuple : PySem.W.nsIn K mainGlobals "tuple" = some none)
    (z_enumerate : PySem.W.nsIn K mainGlobals "enumerate" = some none)
    (z_repr : PySem.W.nsIn K mainGlobals "repr" = some none) :
    ∃ fd : FuncData, (∀ (s : Shared) (u : Value), BindsTo s fd ⟨[u], []⟩ [("_law_script", u)]) ∧ ∀ base : Heap, K.In base → base.Ns mainGlobals mg → FnG P w K mg base CX0 12 fa fd ["_law_script"] (spLaw K) := by
  have e := hfa.symm.trans (PySem.W.mg_of X G aLaw)
  cases e
  have FIN := fun_mk (st := s_is_name) lIN cIN kIN
  have bIN := FIN.binds (ps := ["value"]) fun _ _ _ _ _ _ us hl => match us, hl with | [_], _ => rfl
  have FLO := fun_mk (st := s_lines_of) lLO cLO kLO
  have bLO := FLO.binds (ps := ["text"]) fun _ _ _ _ _ _ us hl => match us, hl with | [_], _ => rfl
  have FRN := fun_mk (st := s_read_number) lRN cRN kRN
  have bRN := FRN.binds (ps := ["word", "most"]) fun _ _ _ _ _ _ us hl => match us, hl with | [_, _], _ => rfl
  have FST := fun_mk (st := s_story_text) lST cST kST
  have bST := FST.binds (ps := ["deeds"]) fun _ _ _ _ _ _ us hl => match us, hl with | [_], _ => rfl
  have FRS := fun_mk (st := s_read_story) lRS cRS kRS
  have bRS := FRS.binds (ps := ["text"]) fun _ _ _ _ _ _ us hl => match us, hl with | [_], _ => rfl
  have FRD := fun_mk (st := s_read_deed) lRD cRD kRD
  have bRD := FRD.binds (ps := ["line"]) fun _ _ _ _ _ _ us hl => match us, hl with | [_], _ => rfl
  have FLP := fun_mk (st := s_law_pen) lLP cLP kLP
  have bLP := FLP.binds (ps := ["_law_script"]) fun _ _ _ _ _ _ us hl => match us, hl with | [_], _ => rfl
  have FLD := fun_mk (st := s_law_draw) lLD cLD kLD
  have bLD := FLD.binds (ps := ["_law_pen_here", "_law_many"]) fun _ _ _ _ _ _ us hl => match us, hl with | [_, _], _ => rfl
  have FLK := fun_mk (st := s_law_pick) lLK cLK kLK
  have bLK := FLK.binds (ps := ["_law_pen_here", "_law_some"]) fun _ _ _ _ _ _ us hl => match us, hl with | [_, _], _ => rfl
  have FLW := fun_mk (st := s_law_word) lLW cLW kLW
  have bLW := FLW.binds (ps := ["_law_pen_here"]) fun _ _ _ _ _ _ us hl => match us, hl with | [_], _ => rfl
  have FLT := fun_mk (st := s_law_tag) lLT cLT kLT
  have bLT := FLT.binds (ps := ["_law_pen_here"]) fun _ _ _ _ _ _ us hl => match us, hl with | [_], _ => rfl
  have FLE := fun_mk (st := s_law_deed) lLE cLE kLE
  have bLE := FLE.binds (ps := ["_law_pen_here"]) fun _ _ _ _ _ _ us hl => match us, hl with | [_], _ => rfl
  have FLX := fun_mk (st := s_law_text) lLX cLX kLX
  have bLX := FLX.binds (ps := ["_law_some"]) fun _ _ _ _ _ _ us hl => match us, hl with | [_], _ => rfl
  have FLI := fun_mk (st := s_law_is_right) lLI cLI kLI
  have bLI := FLI.binds (ps := ["_law_sort", "_law_word_here"]) fun _ _ _ _ _ _ us hl => match us, hl with | [_, _], _ => rfl
  have FLQ := fun_mk (st := s_law_wrong_line) lLQ cLQ kLQ
  have bLQ := FLQ.binds (ps := ["_law_words"]) fun _ _ _ _ _ _ us hl => match us, hl with | [_], _ => rfl
  have FLU := fun_mk (st := s_law_due) lLU cLU kLU
  have bLU := FLU.binds (ps := ["_law_page"]) fun _ _ _ _ _ _ us hl => match us, hl with | [_], _ => rfl
  have FLR := fun_mk (st := s_law_heard) lLR cLR kLR
  have bLR := FLR.binds (ps := ["_law_value"]) fun _ _ _ _ _ _ us hl => match us, hl with | [_], _ => rfl
  have FLB := fun_mk (st := s_law_bent) lLB cLB kLB
  have bLB := FLB.binds (ps := ["_law_pen_here", "_law_lines_so"]) fun _ _ _ _ _ _ us hl => match us, hl with | [_, _], _ => rfl
  have FNI := fun_mk (st := s_Line___init__) lNI cNI kNI
  have bNI := FNI.binds (ps := ["self", "index", "text"]) fun _ _ _ _ _ _ us hl => match us, hl with | [_, _, _], _ => rfl
  have FWA := fun_mk (st := s_Line_word_at) lWA cWA kWA
  have bWA := FWA.binds (ps := ["self", "at"]) fun _ _ _ _ _ _ us hl => match us, hl with | [_, _], _ => rfl
  have FNA := fun_mk (st := s_Line_name_at) lNA cNA kNA
  have bNA := FNA.binds (ps := ["self", "at"]) fun _ _ _ _ _ _ us hl => match us, hl with | [_, _], _ => rfl
  have FNB := fun_mk (st := s_Line_name_above) lNB cNB kNB
  have bNB := FNB.binds (ps := ["self", "at", "last"]) fun _ _ _ _ _ _ us hl => match us, hl with | [_, _, _], _ => rfl
  have FCA := fun_mk (st := s_Line_count_at) lCA cCA kCA
  have bCA := FCA.binds (ps := ["self", "at"]) fun _ _ _ _ _ _ us hl => match us, hl with | [_, _], _ => rfl
  have FEA := fun_mk (st := s_Line_end_at) lEA cEA kEA
  have bEA := FEA.binds (ps := ["self", "at"]) fun _ _ _ _ _ _ us hl => match us, hl with | [_, _], _ => rfl
  have FTI := fun_mk (st := s_InvalidText___init__) lTI cTI kTI
  have bTI := FTI.binds (ps := ["self", "line", "word"]) fun _ _ _ _ _ _ us hl => match us, hl with | [_, _, _], _ => rfl
  have kbST := kb_one FST (a := "deeds") (fun _ _ _ _ _ _ _ => rfl) (fun _ _ _ _ _ _ _ => rfl)
  have kbRS := kb_one FRS (a := "text") (fun _ _ _ _ _ _ _ => rfl) (fun _ _ _ _ _ _ _ => rfl)
  let V : VF K mg := {
    CL := CL, CT := CT, CN := CN, CM := CM, CD := CD, od := .int 6 vtok
    fIN := fIN, dIN := _
    fLO := fLO, dLO := _
    fRN := fRN, dRN := _
    fST := fST, dST := _
    fRS := fRS, dRS := _
    fRD := fRD, dRD := _
    fLP := fLP, dLP := _
    fLD := fLD, dLD := _
    fLK := fLK, dLK := _
    fLW := fLW, dLW := _
    fLT := fLT, dLT := _
    fLE := fLE, dLE := _
    fLX := fLX, dLX := _
    fLI := fLI, dLI := _
    fLQ := fLQ, dLQ := _
    fLU := fLU, dLU := _
    fLR := fLR, dLR := _
    fLB := fLB, dLB := _
    fNI := fNI, dNI := _
    fWA := fWA, dWA := _
    fNA := fNA, dNA := _
    fNB := fNB, dNB := _
    fCA := fCA, dCA := _
    fEA := fEA, dEA := _
    fTI := fTI, dTI := _
    t := ⟨PySem.W.mg_none_of X G z_int, PySem.W.mg_none_of X G z_bool, PySem.W.mg_none_of X G z_len, PySem.W.mg_none_of X G z_abs, PySem.W.mg_none_of X G z_list, PySem.W.mg_none_of X G z_range, PySem.W.mg_none_of X G z_str, PySem.W.mg_none_of X G z_isinstance, PySem.W.mg_none_of X G z_tuple, PySem.W.mg_none_of X G z_enumerate, PySem.W.mg_none_of X G z_repr⟩
    u := ⟨PySem.W.mg_none_of X G z_enumerate⟩
    F_is_name := FIN, b_is_name := bIN, g_is_name := PySem.W.mg_of X G aIN
    F_lines_of := FLO, b_lines_of := bLO, g_lines_of := PySem.W.mg_of X G aLO
    F_read_number := FRN, b_read_number := bRN, g_read_number := PySem.W.mg_of X G aRN
    F_story_text := FST, b_story_text := bST, g_story_text := PySem.W.mg_of X G aST
    F_read_story := FRS, b_read_story := bRS, g_read_story := PySem.W.mg_of X G aRS
    F_read_deed := FRD, b_read_deed := bRD, g_read_deed := PySem.W.mg_of X G aRD
    F_law_pen := FLP, b_law_pen := bLP, g_law_pen := PySem.W.mg_of X G aLP
    F_law_draw := FLD, b_law_draw := bLD, g_law_draw := PySem.W.mg_of X G aLD
    F_law_pick := FLK, b_law_pick := bLK, g_law_pick := PySem.W.mg_of X G aLK
    F_law_word := FLW, b_law_word := bLW, g_law_word := PySem.W.mg_of X G aLW
    F_law_tag := FLT, b_law_tag := bLT, g_law_tag := PySem.W.mg_of X G aLT
    F_law_deed := FLE, b_law_deed := bLE, g_law_deed := PySem.W.mg_of X G aLE
    F_law_text := FLX, b_law_text := bLX, g_law_text := PySem.W.mg_of X G aLX
    F_law_is_right := FLI, b_law_is_right := bLI, g_law_is_right := PySem.W.mg_of X G aLI
    F_law_wrong_line := FLQ, b_law_wrong_line := bLQ, g_law_wrong_line := PySem.W.mg_of X G aLQ
    F_law_due := FLU, b_law_due := bLU, g_law_due := PySem.W.mg_of X G aLU
    F_law_heard := FLR, b_law_heard := bLR, g_law_heard := PySem.W.mg_of X G aLR
    F_law_bent := FLB, b_law_bent := bLB, g_law_bent := PySem.W.mg_of X G aLB
    F_linit := FNI, b_linit := bNI
    F_wordat := FWA, b_wordat := bWA
    F_nameat := FNA, b_nameat := bNA
    F_nameabove := FNB, b_nameabove := bNB
    F_countat := FCA, b_countat := bCA
    F_endat := FEA, b_endat := bEA
    F_tinit := FTI, b_tinit := bTI
    kb_story_text := kbST
    kb_read_story := kbRS
    g_Line := PySem.W.mg_of X G aCL
    mk_L := ⟨mkCL, fiNI, fnNI, kpCL⟩
    c_L := ⟨pgCL, hdCL, poCL, saCL⟩
    n_index := nix
    n_words := nwd
    m_wordat := ⟨fiWA, fnWA, kWA⟩
    m_nameat := ⟨fiNA, fnNA, kNA⟩
    m_nameabove := ⟨fiNB, fnNB, kNB⟩
    m_countat := ⟨fiCA, fnCA, kCA⟩
    m_endat := ⟨fiEA, fnEA, kEA⟩
    g_InvalidText := PySem.W.mg_of X G aCT
    g_InvalidDeed := PySem.W.mg_of X G aCD
    g_NetError := PySem.W.mg_of X G aCN
    g_MissingError := PySem.W.mg_of X G aCM
    o_T := ⟨⟨_, _, _, _, _, _, _, _, _, _, _, _, _, _, _, xL, rfl⟩, saT, exT, tyT, kpT⟩
    i_T := fiTI
    t_T := tTI
    n_line := nlT
    n_word := nwT
    ask_T := ⟨hdT, gaT, ggT, exT, caT, cn, ctk, cmT, kpT⟩
    ex_T := exm_two (PySem.W.exm_ref exCN hdCN tyCN sTN) (PySem.W.exm_ref exCM hdCM tyCM sTM)
    k_TT := kit_self
    k_TD := kitAny_cons (kit_ref neD hdCD tyCD sTD) (fun _ => kitAny_cons (kit_ref neM hdCM tyCM sTM) (fun _ => rfl) (fun z => z)) (fun z => z)
    g_od := PySem.W.mg_of X G aod
    r_od := ⟨_, rfl⟩ }
  let Z : SZ K w mg := { dS := dS, g_SIZES := PySem.W.mg_of X G aS, k_S := ⟨es, esn, ⟨lS, kS, oS⟩, eS⟩ }
  exact ⟨_, fun s v => .of_eq rfl, fun base _ _ => ok_law V Z (fun_mk (st := s_law) lLaw cLaw kLaw)⟩

end K24
open PySem PySem.W PyProof.Rows
set_option maxRecDepth 100000 in
set_option maxHeartbeats 0 in
theorem PySem.Challenge.cw_evenends_k24_texts_of_stories_holds : PySem.Challenge.rw_evenends_k24_texts_of_stories.Holds := by
  w_on; o_law; k_head; (case hw => w_witness2)
  k_fill
  refine EvG.walkG (x := "_law_script") (k := 12) (n := 63) (sp := K24.spLaw) (l := PySem.Challenge.rw_evenends_k24_texts_of_stories) rfl (by decide) rfl ⟨rfl, by decide, by decide⟩ (fun w h Y => PySem.W.kIn_of Y) ?F (fun K H a ns hl _ hS => ⟨a, ns, rfl, hS, hl, fun _ => rfl⟩)
  case F =>
    intro w mg fa h KX G hmg
    refine' K24.all_mk KX G hmg ?aIN ?lIN ?cIN ?kIN ?aLO ?lLO ?cLO ?kLO ?aRN ?lRN ?cRN ?kRN ?aST ?lST ?cST ?kST ?aRS ?lRS ?cRS ?kRS ?aRD ?lRD ?cRD ?kRD ?aLP ?lLP ?cLP ?kLP ?aLD ?lLD ?cLD ?kLD ?aLK ?lLK ?cLK ?kLK ?aLW ?lLW ?cLW ?kLW ?aLT ?lLT ?cLT ?kLT ?aLE ?lLE ?cLE ?kLE ?aLX ?lLX ?cLX ?kLX ?aLI ?lLI ?cLI ?kLI ?aLQ ?lLQ ?cLQ ?kLQ ?aLU ?lLU ?cLU ?kLU ?aLR ?lLR ?cLR ?kLR ?aLB ?lLB ?cLB ?kLB ?aLaw ?lLaw ?cLaw ?kLaw ?aCL ?aCT ?aCN ?aCM ?aCD ?aod ?aS ?lS ?kS ?oS ?eS ?mkCL ?kpCL ?pgCL ?hdCL ?poCL ?saCL ?nix ?nwd ?fiNI ?fnNI ?lNI ?cNI ?kNI ?fiWA ?fnWA ?lWA ?cWA ?kWA ?fiNA ?fnNA ?lNA ?cNA ?kNA ?fiNB ?fnNB ?lNB ?cNB ?kNB ?fiCA ?fnCA ?lCA ?cCA ?kCA ?fiEA ?fnEA ?lEA ?cEA ?kEA ?fiTI ?lTI ?cTI ?kTI ?cn ?ctk ?tTI ?xL ?saT ?exT ?tyT ?kpT ?nlT ?nwT ?hdT ?gaT ?ggT ?caT ?cmT ?exCN ?tyCN ?hdCN ?exCM ?tyCM ?hdCM ?exCD ?tyCD ?hdCD ?sTN ?sTM ?sTD ?neD ?neM ?z_int ?z_bool ?z_len ?z_abs ?z_list ?z_range ?z_str ?z_isinstance ?z_tuple ?z_enumerate ?z_repr
    (case aIN => k_is)
    (case lIN => k_is)
    (case cIN => k_is)
    (case kIN => k_is)
    (case aLO => k_is)
    (case lLO => k_is)
    (case cLO => k_is)
    (case kLO => k_is)
    (case aRN => k_is)
    (case lRN => k_is)
    (case cRN => k_is)
    (case kRN => k_is)
    (case aST => k_is)
    (case lST => k_is)
    (case cST => k_is)
    (case kST => k_is)
    (case aRS => k_is)
    (case lRS => k_is)
    (case cRS => k_is)
    (case kRS => k_is)
    (case aRD => k_is)
    (case lRD => k_is)
    (case cRD => k_is)
    (case kRD => k_is)
    (case aLP => k_is)
    (case lLP => k_is)
    (case cLP => k_is)
    (case kLP => k_is)
    (case aLD => k_is)
    (case lLD => k_is)
    (case cLD => k_is)
    (case kLD => k_is)
    (case aLK => k_is)
    (case lLK => k_is)
    (case cLK => k_is)
    (case kLK => k_is)
    (case aLW => k_is)
    (case lLW => k_is)
    (case cLW => k_is)
    (case kLW => k_is)
    (case aLT => k_is)
    (case lLT => k_is)
    (case cLT => k_is)
    (case kLT => k_is)
    (case aLE => k_is)
    (case lLE => k_is)
    (case cLE => k_is)
    (case kLE => k_is)
    (case aLX => k_is)
    (case lLX => k_is)
    (case cLX => k_is)
    (case kLX => k_is)
    (case aLI => k_is)
    (case lLI => k_is)
    (case cLI => k_is)
    (case kLI => k_is)
    (case aLQ => k_is)
    (case lLQ => k_is)
    (case cLQ => k_is)
    (case kLQ => k_is)
    (case aLU => k_is)
    (case lLU => k_is)
    (case cLU => k_is)
    (case kLU => k_is)
    (case aLR => k_is)
    (case lLR => k_is)
    (case cLR => k_is)
    (case kLR => k_is)
    (case aLB => k_is)
    (case lLB => k_is)
    (case cLB => k_is)
    (case kLB => k_is)
    (case aLaw => k_is)
    (case lLaw => k_is)
    (case cLaw => k_is)
    (case kLaw => k_is)
    (case aCL => k_is)
    (case aCT => k_is)
    (case aCN => k_is)
    (case aCM => k_is)
    (case aCD => k_is)
    (case aod => k_is)
    (case aS => k_is)
    (case lS => k_is)
    (case kS => k_keys)
    (case oS => first | rfl | decide)
    (case eS => first | rfl | decide +kernel)
    (case mkCL => k_is)
    (case kpCL => k_is)
    (case pgCL => k_is)
    (case hdCL => k_is)
    (case poCL => k_is)
    (case saCL => k_is)
    (case nix => k_is)
    (case nwd => k_is)
    (case fiNI => k_is)
    (case fnNI => k_is)
    (case lNI => k_is)
    (case cNI => k_is)
    (case kNI => k_is)
    (case fiWA => k_is)
    (case fnWA => k_is)
    (case lWA => k_is)
    (case cWA => k_is)
    (case kWA => k_is)
    (case fiNA => k_is)
    (case fnNA => k_is)
    (case lNA => k_is)
    (case cNA => k_is)
    (case kNA => k_is)
    (case fiNB => k_is)
    (case fnNB => k_is)
    (case lNB => k_is)
    (case cNB => k_is)
    (case kNB => k_is)
    (case fiCA => k_is)
    (case fnCA => k_is)
    (case lCA => k_is)
    (case cCA => k_is)
    (case kCA => k_is)
    (case fiEA => k_is)
    (case fnEA => k_is)
    (case lEA => k_is)
    (case cEA => k_is)
    (case kEA => k_is)
    (case fiTI => k_is)
    (case lTI => k_is)
    (case cTI => k_is)
    (case kTI => k_is)
    (case cn => k_is)
    (case ctk => k_is)
    (case tTI => k_is)
    (case xL => k_is)
    (case saT => k_is)
    (case exT => k_is)
    (case tyT => k_is)
    (case kpT => k_is)
    (case nlT => k_is)
    (case nwT => k_is)
    (case hdT => k_is)
    (case gaT => k_is)
    (case ggT => k_is)
    (case caT => k_is)
    (case cmT => k_is)
    (case exCN => k_is)
    (case tyCN => k_is)
    (case hdCN => k_is)
    (case exCM => k_is)
    (case tyCM => k_is)
    (case hdCM => k_is)
    (case exCD => k_is)
    (case tyCD => k_is)
    (case hdCD => k_is)
    (case sTN => k_is)
    (case sTM => k_is)
    (case sTD => k_is)
    (case neD => first | rfl | decide)
    (case neM => first | rfl | decide)
    (case z_int => k_is)
    (case z_bool => k_is)
    (case z_len => k_is)
    (case z_abs => k_is)
    (case z_list => k_is)
    (case z_range => k_is)
    (case z_str => k_is)
    (case z_isinstance => k_is)
    (case z_tuple => k_is)
    (case z_enumerate => k_is)
    (case z_repr => k_is)
