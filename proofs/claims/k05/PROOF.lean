import PyProof.Rows.All
import Wide.All
import OpenK.AllK
import Wide.FinOn
import HandS.ForMost
import HandS.IsInst
import HandS.StrMore
import HandS.Steps
import HandS.Walk
import HandS.ExcInit
import HandS.ExcOwn
import HandS.ExcField
import KE.KExcInit
import KE.KExcIs
import HandS.ExcValue
import HandS.ListItems
import PyProof.EnumIter
import PyProof.EnumMake
import PyProof.EnumStmt
import KE.KItemsList
import PyProof.DictUpdate
import PyProof.DictKeyH
import KE.KParD
import HandS.Base
import HandS.Call
import HandS.Dict
import HandS.Star
import HandS.MakeKw
import HandS.OwnEq
import HandS.FStr
import KE.KFmtOwn
import HandS.Exc
import KE.KTryMore
import HandS.SetTxt0
import HandS.SetFor
import HandS.Strs
import HandS.DictComp
import KE.KOpsOwn
import HandS.Property
import HandS.ClsMeth
import HandS.Comp
import PyProof.Rows.StrMeet
import PyProof.TupleOfGen
import KE.KDictSum
import HandS.Small
import HandS.TupLe
import HandS.Wide
import HandS.WordsDict
import HandS.RaiseMore
import HandS.Style
import HandS.Text
import HandS.More
import HandS.WordsExc
import HandS.TryOnly
import HandS.ExcIs
import PySem.Challenge.RW_evenends_k05_vectors_written_and_read
set_option Elab.async false
set_option linter.all false
set_option maxRecDepth 100000
set_option maxHeartbeats 4000000

/-! Defs that may show data: their promise is asked where no object is being shown (no guard is set). -/
namespace EvG
open PySem PySem.Spec PyProof.Rows L2

/-- a def's promise, asked only where nothing is being shown -/
structure FnG (P : Program) (w : World) (K : PySem.W.Frag) (mg : Str → Option Value) (base : Heap) (CX : CXT) (k : Nat) (f : Addr) (fd : FuncData) (ps : List Str) (sp : Sp) : Prop where
  len : ∀ vs H Q E, sp vs H Q E → vs.length = ps.length
  go : ∀ (A : Around) (outer : List Env) (s : Shared) (H : Hp) (args : Args) (us : List Value) (vs : List V) (Q : VK) (E : XK), A.guards = some [] → Room k A → Env0 P w K mg base A outer s H →
    BindsTo s fd args (ps.zip us) → Vals vs us → sp vs H Q E → codeAny (model P w) A (.call (.ref f) args) (CR CX outer P w H s Q E) s

section
variable {P : Program} {w : World} {K : PySem.W.Frag} {mg : Str → Option Value} {base : Heap} {CX : CXT} {k : Nat} {f : Addr} {fd : FuncData} {ps : List Str} {sp : Sp}
theorem FnG.of (F : FnOk P w K mg base CX k f fd ps sp) : FnG P w K mg base CX k f fd ps sp :=
  ⟨F.len, fun A outer s H args us vs Q E _ hr e0 hb r h => F.run A outer s H args us vs Q E hr e0 hb r h⟩
theorem FnG.mono {j : Nat} (F : FnG P w K mg base CX j f fd ps sp) (h : j ≤ k) : FnG P w K mg base CX k f fd ps sp :=
  ⟨F.len, fun A outer s H args us vs Q E g hr e0 hb r q => F.go A outer s H args us vs Q E g (hr.mono h) e0 hb r q⟩
end

theorem endG {P : Program} {w : World} {outer : List Env} {s : Shared} {H : Hp} {Q : VK} {X : Cx} {σ : L2.St} {H' : Hp} {s' : Shared} {v : V} {u : Value} (J : Inv X [] σ H' s') (rv : RelV v u) (q : Q v H')
    (eP : X.prog = P) (ew : X.w = w) (eo : X.outer = outer) (es : X.s_0 = s) (ex : X.ex = []) (eH : X.H_0 = H) : CE outer P w H s Q u s' := by
  subst eP; subst ew; subst eo; subst es; subst eH
  have b := J.base
  rw [ex] at b
  exact ⟨v, H', J.os, J.bare, b, J.hok, rv, q⟩

/-- a def of the text keeps its promise by its body, nothing being shown -/
theorem fnG {P : Program} {w : World} {K : PySem.W.Frag} {mg : Str → Option Value} {base : Heap} {x qual : Str} {st : Stmt} {f : Addr} {fd : FuncData} {N ps : List Str} {k : Nat} {sp : Sp}
    (F : Fun K x qual st f fd) (S : FnScope N ps (defScope st)) (len : ∀ vs H Q E, sp vs H Q E → vs.length = ps.length)
    (body : ∀ (cdv : Value) (A : Around) (outer : List Env) (s : Shared) (H : Hp) (vs : List V) (Q : VK) (E : XK), A.guards = some [] → Room k (A.deeper (envOfC qual (defScope st) s.heap.objs.size f cdv)) → sp vs H Q E →
      ∃ t, PSs (cxOf CX0 P w K mg base N qual (defScope st) f cdv A outer s H E).nox (defBody st) t ∧ t { nx := fun _ H' => Q .non H', rt := Q } (start N vs) H) : FnG P w K mg base CX0 (k + 1) f fd ps sp := by
  obtain ⟨oc, od, kV, doc, pm, an, cdv, ct, osl, rfl, lk, hcd⟩ := F.ex
  refine ⟨len, ?_⟩
  intro A outer s H args us vs Q E hg room env0 hbind rv asked
  have many : vs.length = ps.length := len vs H Q E asked
  have inK : K.In s.heap := env0.mod.kin.keeps fun c o h => (env0.bs c o h).1
  have noL : s.heap.NoLimit := env0.mod.nolimit.keeps fun c o h => (env0.bs c o h).1
  have kinds : ∀ y ∈ ps.zip us, (defScope st).names.lookup y.1 = some .local ∨ ((defScope st).names.lookup y.1 = some .cell ∧ ((cellsFrom (s.heap.objs.size + 1) (defScope st).names []).lookup y.1).isSome = true) := by
    rintro ⟨n, v⟩ hy
    cases S.par n (List.of_mem_zip hy).1 with
    | inl q => exact Or.inl q
    | inr q => exact Or.inr ⟨q, PySem.W.cellsFrom_some _ _ _ (Or.inl q)⟩
  refine codeAny_call_function room.depth (inK _ _ lk) rfl S.co S.gen rfl (PySem.W.codeRec_of inK hcd) (hbind _ _ _ _ ?_)
  refine wpAny_newFunctionEnv_cells S.kind kinds fun env he s1 inC => ?_
  cases he
  refine ⟨noL.keeps inC.toInCall.keep, codeAny_func ?_⟩
  obtain ⟨t, tree, read⟩ := body cdv A outer s H vs Q E hg (room.deeper _) asked
  have I0 : Inv (cxOf CX0 P w K mg base N qual (defScope st) f cdv A outer s H E) [] (start N vs) H s1 := inv_start S room.hd env0 many rv inC
  refine wpAny_mono (tree.nox.run [] s1 (start N vs) H _ I0 read) (fun fl s' hs => ?_) (fun e s' hs => hs)
  cases fl with
  | next =>
    obtain ⟨τ, G, J, q⟩ := hs
    exact endG (v := V.non) (u := Value.none) J rfl q rfl rfl rfl rfl rfl rfl
  | ret u =>
    obtain ⟨v, τ, G, J, r, q⟩ := hs
    exact endG J r q rfl rfl rfl rfl rfl rfl
  | brk =>
    obtain ⟨_, _, _, q⟩ := hs
    exact q.elim
  | cont =>
    obtain ⟨_, _, _, q⟩ := hs
    exact q.elim

section
variable {X : Cx} {CX : CXT} {k : Nat} {f : Addr} {fd : FuncData} {ps : List Str} {sp : Sp} {dvs : List V} {ds : List Value} {E : XK} {x : Str} {p pos : Pos} {e : Expr} {es : List Expr} {t : TA}
theorem runG {pins : List (Addr × Obj)} {σ : L2.St} {H : Hp} {s : Shared} {Q : VK} {us : List Value} {vs : List V} (F : FnG X.prog X.w X.K X.mg X.base CX k f fd ps sp) (hg : X.A.guards = some []) (hr : Room k X.A) (hb : Binds X.K fd ps ds) (hd : Vals dvs ds) (hx : Passes CX X E)
    (I : Inv X pins σ H s) (r : Vals vs us) (h : sp (vs ++ dvs) H Q E) : wpAny (model X.prog X.w) X.A (call (.ref f) us) (EP X pins σ Q) X.xe s := by
  have rr : Vals (vs ++ dvs) (us ++ ds) := r.append hd
  have hl : (us ++ ds).length = ps.length := rr.length.symm.trans (F.len _ _ _ _ h)
  refine wpAny_call (codeAny_mono (F.go X.A X.stack s H ⟨us, []⟩ (us ++ ds) (vs ++ dvs) Q E hg hr I.env0 (hb s us I.kIn hl) rr h) (fun res s' hq => ?_))
  cases res with
  | error e => exact hx pins σ H s e s' I hq
  | ok fl =>
    cases fl with
    | ret u => exact I.after hq
    | next => exact hq.elim
    | brk => exact hq.elim
    | cont => exact hq.elim
/-- f(e, ..), f such a def -/
theorem pe_callG (F : FnG X.prog X.w X.K X.mg X.base CX k f fd ps sp) (g : X.A.guards = some []) (hr : Room k X.A) (hg : Gl X x) (hm : X.mg x = some (.ref f)) (hk : PySem.W.keepIn X.K (.ref f) = true) (hb : Binds X.K fd ps ds) (hd : Vals dvs ds) (hx : Passes CX X E)
    (ha : PA X (e :: es) t) (hdb : (x == ("__debug__" : Str)) = false := by decide) (he : starEach (e :: es) X.env = (false, eval e X.env) :: starEach es X.env := by rfl) (hpl : (backTo pos (starEach es X.env)).any (·.1) = false := by rfl) :
    PE X (.Call (.Name x p) (e :: es) [] pos) (tCall sp dvs E t) := by
  constructor
  intro pins s σ H Q I h
  apply wpAny_Call_Name_kw
  refine ld_glob I hg hm ?_ hdb
  refine PySem.W.callWith_K (h₀ := X.base) I.ok.mod.kin hk ?_ he hpl
  refine thn (ha.run pos pins s σ H _ I h) ?_
  rintro us s1 ⟨vs, H1, I1, r, q⟩
  exact ⟨I1.kIn, runG F g hr hb hd hx I1 r q⟩
end

/-! ### repr of data -/
section
variable {X : Cx}
/-- what may be shown: d is what v holds, without dicts -/
def rRepr (K : PySem.W.Frag) : List V → Hp → VK → Prop := fun xs H Q => ∃ (a : Addr) (d : PyData), xs = [.ref a] ∧ Dp K H (.ref a) d ∧ d.showable = true ∧ d.hasDict = false ∧ d.depth ≤ 40 ∧ d.shown.length ≤ sizeLine ∧ Q (.str d.shown) H
theorem call_repr (g : X.A.guards = some []) (hu : X.A.units + 64 < cLine) : CallR X (.builtin "repr") (rRepr X.K) := by
  intro pins s σ H xs us Q I r h
  obtain ⟨a, d, rfl, hd, sh, nd, dep, sz, q⟩ := h
  obtain ⟨u, rfl, ru⟩ : ∃ u, us = [u] ∧ RelV (.ref a) u := by
    cases r with
    | cons r1 r2 =>
      cases r2
      exact ⟨_, rfl, r1⟩
  obtain ⟨as, rd⟩ := Dp.reads I d _ u hd ru
  obtain rfl : u = Value.ref a := ru
  refine repr_of_reads' rd sh (fun z => by rw [nd] at z; cases z) g (by omega) (fun _ _ e => e) (fun h' u tk k => ?_) sz
  exact ⟨.str d.shown, H, I.kept k, ⟨_, rfl⟩, q⟩
end
end EvG

/-! ### the law's call where nothing is shown -/
namespace EvG
open PySem PySem.Spec PyProof.Rows L2
/-- the module's facts stay where only the script is put aside -/
theorem hidden_mod {s₁ : Shared} {K : PySem.W.Frag} {mg mb : Str → Option Value} {H : Hp} (KX : K.In s₁.heap) (hns : s₁.heap.Ns mainGlobals mg) (hb : s₁.heap.Ns builtinsNs mb) (hbb : ∀ x : Str, x ≠ "__name__" → mb x = bootBuiltins x) (hlim : s₁.heap.NoLimit)
    (free : ∀ b o, s₁.heap.get? b = some o → (∃ es ep, o.data = Data.dict es ep) → H b = none) (freeK : ∀ b o, K.lookup b = some o → H b = none) : Mod K mg (hidT s₁.heap H) := by
  have ns : ∀ (b : Addr) (m : Str → Option Value), s₁.heap.Ns b m → (hidT s₁.heap H).Ns b m := by
    rintro b m ⟨o, es, ep, e, d, r⟩
    exact ⟨o, es, ep, hidT_get e (free b o e ⟨es, ep, d⟩), d, r⟩
  refine ⟨?_, ns _ _ hns, ⟨mb, ns _ _ hb, hbb⟩, ?_⟩
  · intro b o e
    exact hidT_get (KX b o e) (freeK b o e)
  · obtain ⟨mc, h1, h2⟩ := hlim
    exact ⟨mc, ns _ _ h1, h2⟩

theorem callG {P : Program} {w : World} {K : PySem.W.Frag} {mg mb : Str → Option Value} {k : Nat} {fa a : Addr} {fd : FuncData} {x : Str} {sp : Sp} {s₁ : Shared} {vs : List Value} {ns : List Int}
    (KX : K.In s₁.heap) (hns : s₁.heap.Ns mainGlobals mg) (hb : s₁.heap.Ns builtinsNs mb) (hbb : ∀ x : Str, x ≠ "__name__" → mb x = bootBuiltins x) (hlim : s₁.heap.NoLimit) (hg : s₁.gens = #[])
    (ha : s₁.heap.get? a = some { cls := .type "list", data := .seq vs.toArray }) (hi : IntsAre vs ns) (hl : ns.length ≤ sizeLine) (hr : Room k callerA)
    (F : ∀ base : Heap, K.In base → base.Ns mainGlobals mg → FnG P w K mg base CX0 k fa fd [x] sp) (hbind : ∀ (s : Shared) (u : Value), BindsTo s fd ⟨[u], []⟩ [(x, u)])
    (hsp : ∀ H : Hp, Only H → SqL K H a (ns.map V.int) → sp [.ref a] H (fun v _ => v = .bl true) fun _ _ _ => False) :
    codeAny (model P w) callerA (.call (.ref fa) ⟨[.ref a], []⟩) (fun r s' => r = .ok (.ret (.bool true)) ∧ OldK s₁.heap s'.heap ∧ s'.os = s₁.os ∧ AllBare s'.gens) s₁ := by
  have rv := vals_ints hi
  have sizes := hi.length
  have main : ∀ H : Hp, Only H → SqL K H a (ns.map V.int) → HOk P w H s₁.heap → (∀ b o, s₁.heap.get? b = some o → (∃ es ep, o.data = Data.dict es ep) → H b = none) → (∀ b o, K.lookup b = some o → H b = none) →
      codeAny (model P w) callerA (.call (.ref fa) ⟨[.ref a], []⟩) (fun r s' => r = .ok (.ret (.bool true)) ∧ OldK s₁.heap s'.heap ∧ s'.os = s₁.os ∧ AllBare s'.gens) s₁ := by
    intro H only seq ok fr fk
    have M := hidden_mod (H := H) KX hns hb hbb hlim fr fk
    have e0 : Env0 P w K mg (hidT s₁.heap H) callerA [] s₁ H := by
      refine ⟨rfl, M, fun b o e => of_hidT e, Nat.le_of_eq (hidT_size _ _), trivial, fun b z => ?_, ok, .of_eq hg⟩
      have z' : b ∈ ([] : List Addr) := z
      cases z'
    refine codeAny_mono ((F _ M.kin M.glob).go callerA [] s₁ H ⟨[.ref a], []⟩ [.ref a] [.ref a] _ _ rfl hr e0 (hbind s₁ (.ref a)) (.cons rfl .nil) (hsp H only seq)) ?_
    intro res s' q
    cases res with
    | error e => exact q.elim
    | ok fl =>
      cases fl with
      | next => exact q.elim
      | brk => exact q.elim
      | cont => exact q.elim
      | ret u =>
        obtain ⟨v, H', os, bare, un, ok', r', hv⟩ := q
        obtain rfl : v = .bl true := hv
        obtain rfl : u = Value.bool true := r'
        refine ⟨rfl, OldK.of_keep ?_, os, bare⟩
        intro b o e
        have nin : b ∉ frs ([] : List Env) := fun z => by
          have z' : b ∈ ([] : List Addr) := z
          cases z'
        rcases only b with z | ⟨ob, xs, z⟩
        · exact un.keep b o e z nin (by simp)
        · have e1 := (ok b _ z).1
          have e2 := (ok' b _ (un.frzs b ob _ z)).1
          rw [e] at e1
          cases e1
          exact e2
  by_cases hk : ∃ o, K.lookup a = some o
  · obtain ⟨o, ho⟩ := hk
    have e := KX a o ho
    rw [ha] at e
    cases e
    refine main (fun _ => none) (fun _ => .inl rfl) (.inr ⟨_, vs.toArray, _, ho, rfl, rfl, rfl, ?_, ?_⟩) (fun b u z => ?_) (fun _ _ _ _ => rfl) (fun _ _ _ => rfl)
    · rw [List.size_toArray, sizes]
      exact hl
    · simpa using rv
    · have z' : (none : Option HO) = some u := z
      cases z'
  · have hn : K.lookup a = none := by
      cases q : K.lookup a with
      | none => rfl
      | some o => exact absurd ⟨o, q⟩ hk
    let G : Hp := fun b => if b = a then some (.frz { cls := .type "list", data := .seq vs.toArray } (.lst (ns.map V.int))) else none
    have Ga : G a = some (.frz { cls := .type "list", data := .seq vs.toArray } (.lst (ns.map V.int))) := if_pos rfl
    have Gn : ∀ b, b ≠ a → G b = none := fun b h => if_neg h
    refine main G (fun b => ?_) (.inl (.inr ⟨_, Ga⟩)) (fun b u z => ?_) (fun b o e d => ?_) (fun b o e => ?_)
    · by_cases h : b = a
      · subst h
        exact .inr ⟨_, _, Ga⟩
      · exact .inl (Gn b h)
    · by_cases h : b = a
      · subst h
        rw [Ga] at z
        cases z
        refine ⟨ha, ?_, vs, _, rv, ha⟩
        rw [List.length_map]
        exact hl
      · rw [Gn b h] at z
        cases z
    · refine Gn b fun h => ?_
      subst h
      rw [ha] at e
      cases e
      obtain ⟨es, ep, d⟩ := d
      cases d
    · refine Gn b fun h => ?_
      subst h
      rw [hn] at e
      cases e

/-- the end of a law whose def may show data -/
theorem walkG {l : PySem.W.OpenLaw} {n k : Nat} {q : Program} {loose : List Str} {XP : (Str → Option Value) → Heap → Prop} {YP : World → Heap → Prop} {d : DefRec} {K : Params → PySem.W.Frag} {sp : PySem.W.Frag → Sp} {x : Str}
    (hn : l.most = some n) (hn2 : n ≤ sizeLine) (hdf : d.params.defaults = []) (hr : Room k callerA) (hY : ∀ (w : World) (h : Heap), YP w h → (K w.params).In h)
    (F : ∀ (w : World) (mg : Str → Option Value) (fa : Addr) (h : Heap), (K w.params).In h → h.Ns mainGlobals mg → mg d.name = some (.ref fa) →
      ∃ fd : FuncData, (∀ (s : Shared) (u : Value), BindsTo s fd ⟨[u], []⟩ [(x, u)]) ∧ ∀ base : Heap, (K w.params).In base → base.Ns mainGlobals mg → FnG l.prog w (K w.params) mg base CX0 k fa fd [x] (sp (K w.params)))
    (hsp : ∀ (K : PySem.W.Frag) (H : Hp) (a : Addr) (ns : List Int), ns.length ≤ n → Only H → SqL K H a (ns.map V.int) → sp K [.ref a] H (fun v _ => v = .bl true) fun _ _ _ => False) :
    PySem.W.WalkO q loose XP YP l.row.toRowW d [] (fun f vs => PySem.call f vs) := by
  refine Att.attach_call hn hdf ?_
  intro w s₀ s₁ mg mb fa o pm cd doc a vs ns G Y ho hd hcd hmg hobj hints hlen hg
  have KX := hY w _ Y
  obtain ⟨fd, hb, hF⟩ := F w mg fa _ KX G.T.g hmg
  exact callG KX G.T.g G.T.b G.T.builtins G.T.nolimit hg hobj hints (Nat.le_trans hlen hn2) hr hF hb fun H only seq => hsp _ H a ns hlen only seq
end EvG

/-! Readings, one step a lemma; the steps are found by the head of the goal. -/
namespace EvG
open PySem PySem.Spec PyProof.Rows L2
section
variable {σ : L2.St} {H : Hp} {Q : VK} {QB : Bool → Hp → Prop} {QA : List V → Hp → Prop} {QO : Option Int → Hp → Prop} {QS : L2.St → Hp → Prop} {i : Nat} {v x y : V} {ta tb tc te : TE} {t u : TT} {tr tk : TA} {tl th : TO} {r : R2} {D : Ends} {t1 t2 ts : TS} {g : TG}
theorem g_var (h : σ[i]? = some (some v)) (q : Q v H) : tVar i σ H Q := ⟨v, h, q⟩
theorem g_c (q : Q v H) : tC v σ H Q := q
theorem g_op (h : ta σ H fun x H1 => tb σ H1 fun y H2 => r x y H2 Q) : tOp r ta tb σ H Q := h
theorem g_un {r : V → Hp → VK → Prop} (h : ta σ H fun x H1 => r x H1 Q) : tUn r ta σ H Q := h
theorem g_neg {i : Int} (h : Q (.int (-i)) H) : rU (fun i => .int (-i)) (.int i) H Q := ⟨i, rfl, h⟩
theorem g_I0 {f : Int → Int → V} {i j : Int} (q : Q (f i j) H) : rI0 f (.int i) (.int j) H Q := ⟨i, j, rfl, rfl, q⟩
theorem g_I {C : Int → Int → Prop} {f : Int → Int → V} {i j : Int} (c : C i j) (q : Q (f i j) H) : rI C f (.int i) (.int j) H Q := ⟨i, j, rfl, rfl, c, q⟩
theorem g_eq (h : scal x y = true) (q : Q (.bl (decide (x = y))) H) : rEq x y H Q := ⟨h, q⟩
theorem g_ne (h : scal x y = true) (q : Q (.bl (!decide (x = y))) H) : rNe x y H Q := ⟨h, q⟩
theorem g_test {te : TE} (h : te σ H fun x H' => ∃ k, x = .bl k ∧ QB k H') : tTest te σ H QB := h
theorem g_B {te : TE} (h : te σ H fun x H' => ∃ k, x = .bl k ∧ QB k H') : tB te σ H QB := h
theorem g_bl {k : Bool} {W : Bool → Prop} (q : W k) : ∃ k', V.bl k = .bl k' ∧ W k' := ⟨k, rfl, q⟩
theorem g_and (h : t σ H fun c H1 => if c = true then u σ H1 QB else QB false H1) : tAnd t u σ H QB := h
theorem g_or (h : t σ H fun c H1 => if c = true then QB true H1 else u σ H1 QB) : tOr t u σ H QB := h
theorem g_not (h : t σ H fun c H1 => QB (!c) H1) : tNot t σ H QB := h
theorem g_andV (h : ta σ H fun x H1 => ∃ c, x = .bl c ∧ if c = true then tb σ H1 Q else Q (.bl false) H1) : tAndV ta tb σ H Q := h
theorem g_orV (h : ta σ H fun x H1 => ∃ c, x = .bl c ∧ if c = true then Q (.bl true) H1 else tb σ H1 Q) : tOrV ta tb σ H Q := h
theorem g_notV (h : ta σ H fun x H1 => ∃ c, x = .bl c ∧ Q (.bl (!c)) H1) : tNotV ta σ H Q := h
theorem g_ifx (h : t σ H fun c H1 => if c = true then ta σ H1 Q else tb σ H1 Q) : tIf t ta tb σ H Q := h
theorem g_cons (h : te σ H fun x H1 => tr σ H1 fun xs H2 => QA (x :: xs) H2) : tCons te tr σ H QA := h
theorem g_nil (q : QA [] H) : tNil σ H QA := q
theorem g_cb {r : List V → Hp → VK → Prop} (h : tr σ H fun vs H1 => r vs H1 Q) : tCB r tr σ H Q := h
theorem g_call {sp : Sp} {dvs : List V} {E : XK} (h : tr σ H fun vs H1 => sp (vs ++ dvs) H1 Q E) : tCall sp dvs E tr σ H Q := h
theorem g_callK {sp : Sp} {gV : List V → List V → List V} {E : XK} (h : tr σ H fun vs H1 => tk σ H1 fun zs H2 => sp (gV vs zs) H2 Q E) : L2.tCallK sp gV E tr tk σ H Q := h
theorem g_tup (h : tr σ H fun xs H1 => xs.length ≤ sizeLine ∧ ∀ p, H1 p = none → Q (.ref p) (upd H1 p (.tup xs))) : tTup tr σ H Q := h
theorem g_lst (h : tr σ H fun xs H1 => xs.length ≤ sizeLine ∧ ∀ p, H1 p = none → Q (.ref p) (upd H1 p (.lst xs))) : tLst tr σ H Q := h
theorem g_sl {r : V → Option Int → Option Int → Hp → VK → Prop} (h : te σ H fun x H1 => tl σ H1 fun l H2 => th σ H2 fun u H3 => r x l u H3 Q) : tSl r te tl th σ H Q := h
theorem g_part (h : te σ H fun x H1 => ∃ i, x = .int i ∧ QO (some i) H1) : tPart te σ H QO := h
theorem g_nopart (q : QO none H) : tNoPart σ H QO := q
theorem g_seq (h : t1 { D with nx := t2 D } σ H) : tSeq t1 t2 D σ H := h
theorem g_next (q : D.nx σ H) : tNext D σ H := q
theorem g_asg (h : te σ H fun x H1 => g x σ H1 D.nx) : tAsg te g D σ H := h
theorem g_name (q : QS (σ.set i (some v)) H) : gName i v σ H QS := q
theorem g_sub {to ti : TE} {t : TSet} (h : to σ H fun o H1 => ti σ H1 fun i H2 => t o i v H2 fun H3 => QS σ H3) : gSub to ti t v σ H QS := h
theorem g_ret (h : te σ H D.rt) : tRet te D σ H := h
theorem g_retN (h : D.rt .non H) : tRetN D σ H := h
theorem g_drop (h : te σ H fun _ H1 => D.nx σ H1) : tDrop te D σ H := h
theorem g_ifs {c : TT} (h : c σ H fun b H1 => if b = true then t1 D σ H1 else t2 D σ H1) : tIfS c t1 t2 D σ H := h
theorem g_yes (q : QB true H) : tYes σ H QB := q
theorem g_m0 {r : V → List V → Hp → VK → Prop} {K : PySem.W.Frag} {T : String} (h : te σ H fun x H1 => tyV K T x H1 ∧ r x [] H1 Q) : tBM0 K T r te σ H Q := h
/-- items of lists and tuples that stand -/
theorem g_ixL {K : PySem.W.Frag} {p : Addr} {xs : List V} {i : Int} (h : SqL K H p xs) (ha : atI xs i = some v) (q : Q v H) : rIxL K (.ref p) (.int i) H Q := ⟨p, xs, i, v, rfl, rfl, h, ha, q⟩
theorem g_ixT {K : PySem.W.Frag} {p : Addr} {xs : List V} {i : Int} (h : SqT K H p xs) (ha : atI xs i = some v) (q : Q v H) : rIxT K (.ref p) (.int i) H Q := ⟨p, xs, i, v, rfl, rfl, h, ha, q⟩
theorem g_ixS {z : Str} {i : Int} {c : Nat} (h : z.length ≤ sizeLine) (ha : atI z.cps.toList i = some c) (q : Q (.str ⟨#[c]⟩) H) : rIxS (.str z) (.int i) H Q := ⟨z, i, c, rfl, rfl, h, ha, q⟩
theorem g_setL {p : Addr} {xs : List V} {k : Int} {j : Nat} {QH : Hp → Prop} (h : H p = some (.lst xs)) (hj : ixN xs.length k = some j) (q : QH (upd H p (.lst (xs.set j v)))) : rSetL (.ref p) (.int k) v H QH := ⟨p, xs, k, j, rfl, rfl, h, hj, q⟩
theorem g_true {A B : Prop} {b : Bool} (h : b = true) (q : A) : if b = true then A else B := by
  rw [if_pos h]
  exact q
theorem g_false {A B : Prop} {b : Bool} (h : b = false) (q : B) : if b = true then A else B := by
  rw [if_neg (by rw [h]; exact Bool.false_ne_true)]
  exact q
theorem g_rng1 {ta : TA} {R : It → Hp → Prop} (h : ta σ H fun vs H1 => ∃ j : Int, vs = [.int j] ∧ -(2 ^ 62) ≤ j ∧ j < 2 ^ 62 ∧ R (Itr 0 j.toNat) H1) : iRng1 ta σ H R := h
end
/-- the heap's lookups -/
theorem look_same {H : Hp} {a b : Addr} {o u : HO} (h : a = b) (e : o = u) : upd H b o a = some u := by
  subst h
  subst e
  exact upd_same
theorem look_past {H : Hp} {a b : Addr} {o u : HO} (n : a ≠ b) (h : H a = some u) : upd H b o a = some u := by
  rw [upd_ne n]
  exact h
theorem gone_past {H : Hp} {a b : Addr} {o : HO} (h : upd H b o a = none) : a ≠ b ∧ H a = none := by
  by_cases e : a = b
  · subst e
    rw [upd_same] at h
    cases h
  · rw [upd_ne e] at h
    exact ⟨e, h⟩

/-! ### calls of built-in names, by their values -/
section
variable {X : Cx} {H : Hp} {Q : VK} {i : Int} {K : PySem.W.Frag}
def rIntI : List V → Hp → VK → Prop := fun xs H Q => ∃ i, xs = [.int i] ∧ Q (.int i) H
def rIntB : List V → Hp → VK → Prop := fun xs H Q => ∃ k, xs = [.bl k] ∧ Q (.int (if k then 1 else 0)) H
def rAbs : List V → Hp → VK → Prop := fun xs H Q => ∃ i, xs = [.int i] ∧ Q (.int (if i < 0 then -i else i)) H
def rLenL (K : PySem.W.Frag) : List V → Hp → VK → Prop := fun xs H Q => ∃ p ys, xs = [.ref p] ∧ (SqL K H p ys ∨ SqT K H p ys) ∧ Q (.int ys.length) H
def rLenS : List V → Hp → VK → Prop := fun xs H Q => ∃ z, xs = [.str z] ∧ z.length ≤ sizeLine ∧ Q (.int z.length) H
def rListL (K : PySem.W.Frag) : List V → Hp → VK → Prop := fun xs H Q => ∃ p ys, xs = [.ref p] ∧ (SqL K H p ys ∨ SqT K H p ys) ∧ ∀ l, H l = none → Q (.ref l) (upd H l (.lst ys))
def rStrI : List V → Hp → VK → Prop := fun xs H Q => ∃ i, xs = [.int i] ∧ i.natAbs.log2 < 1920 ∧ Q (.str (toString i)) H
theorem call_intI : CallR X (.type "int") rIntI := fun pins s σ H xs us Q I r h => call_int1 pins s σ H xs us Q I r (.inl h)
theorem call_intB : CallR X (.type "int") rIntB := fun pins s σ H xs us Q I r h => call_int1 pins s σ H xs us Q I r (.inr h)
theorem call_absI : CallR X (.builtin "abs") rAbs := call_abs
theorem call_lenL : CallR X (.builtin "len") (rLenL X.K) := call_len_seq
theorem call_lenS : CallR X (.builtin "len") rLenS := call_len_str
theorem call_listL : CallR X (.type "list") (rListL X.K) := call_list_of
theorem call_strI : CallR X (.type "str") rStrI := call_str_int
theorem g_intI (q : Q (.int i) H) : rIntI [.int i] H Q := ⟨i, rfl, q⟩
theorem g_intB {k : Bool} (q : Q (.int (if k then 1 else 0)) H) : rIntB [.bl k] H Q := ⟨k, rfl, q⟩
theorem g_abs (q : Q (.int (if i < 0 then -i else i)) H) : rAbs [.int i] H Q := ⟨i, rfl, q⟩
theorem g_lenL {p : Addr} {ys : List V} (h : SqL K H p ys) (q : Q (.int ys.length) H) : rLenL K [.ref p] H Q := ⟨p, ys, rfl, .inl h, q⟩
theorem g_lenT {p : Addr} {ys : List V} (h : SqT K H p ys) (q : Q (.int ys.length) H) : rLenL K [.ref p] H Q := ⟨p, ys, rfl, .inr h, q⟩
theorem g_lenS {z : Str} (h : z.length ≤ sizeLine) (q : Q (.int z.length) H) : rLenS [.str z] H Q := ⟨z, rfl, h, q⟩
theorem g_listL {p : Addr} {ys : List V} (h : SqL K H p ys) (q : ∀ l, H l = none → Q (.ref l) (upd H l (.lst ys))) : rListL K [.ref p] H Q := ⟨p, ys, rfl, .inl h, q⟩
theorem g_strI (h : i.natAbs.log2 < 1920) (q : Q (.str (toString i)) H) : rStrI [.int i] H Q := ⟨i, rfl, h, q⟩
theorem g_eqD {x y : V} {d e : PyData} (hd : Dp K H x d) (he : Dp K H y e) (sd : SeqAt.shaped d = true) (se : SeqAt.shaped e = true) (q : Q (.bl (PyData.eqv d e)) H) : rEqD K x y H Q := ⟨d, e, hd, he, sd, se, q⟩
theorem g_neD {x y : V} {d e : PyData} (hd : Dp K H x d) (he : Dp K H y e) (sd : SeqAt.shaped d = true) (se : SeqAt.shaped e = true) (q : Q (.bl (!PyData.eqv d e)) H) : rNeD K x y H Q := ⟨d, e, hd, he, sd, se, q⟩
theorem g_slL {p : Addr} {xs : List V} {lo hi : Option Int} (h : SqL K H p xs) (q : ∀ r, H r = none → Q (.ref r) (upd H r (.lst (cutV xs lo hi)))) : rSlL K (.ref p) lo hi H Q := ⟨p, xs, rfl, h, q⟩
theorem g_slS {z : Str} {lo hi : Option Int} (h : z.length ≤ sizeLine) (q : Q (.str (cutS z lo hi)) H) : rSlS (.str z) lo hi H Q := ⟨z, rfl, h, q⟩
theorem g_rep {l : Addr} {k : Int} {xs : List V} (h : H l = some (.lst xs)) (k0 : -(2 ^ 63) ≤ k) (k1 : k < 2 ^ 63) (z : xs.length * k.toNat ≤ sizeLine) (q : ∀ p, H p = none → Q (.ref p) (upd H p (.lst (List.replicate k.toNat xs).flatten))) : rRep (.ref l) (.int k) H Q :=
  ⟨l, k, xs, rfl, rfl, h, k0, k1, z, q⟩
theorem g_cat {l b : Addr} {xs zs : List V} (h : H l = some (.lst xs)) (h2 : H b = some (.lst zs)) (z : xs.length + zs.length ≤ sizeLine) (q : ∀ p, H p = none → Q (.ref p) (upd H p (.lst (xs ++ zs)))) : rCat (.ref l) (.ref b) H Q :=
  ⟨l, b, xs, zs, rfl, rfl, h, h2, z, q⟩
theorem g_part1 {W : Int → Prop} {i : Int} (q : W i) : ∃ j, V.int i = .int j ∧ W j := ⟨i, rfl, q⟩
theorem g_rng {W : Int → Prop} {i : Int} (h0 : -(2 ^ 62) ≤ i) (h1 : i < 2 ^ 62) (q : W i) : ∃ j : Int, [V.int i] = [.int j] ∧ -(2 ^ 62) ≤ j ∧ j < 2 ^ 62 ∧ W j := ⟨i, rfl, h0, h1, q⟩
end
/-! ### int lists as data -/
theorem dp_ints {K : PySem.W.Frag} {H : Hp} : ∀ ns : List Int, DpAll K H (ns.map V.int) (ns.map PyData.int)
  | [] => .nil
  | n :: r => .cons (.int n) (dp_ints r)
theorem canInts : ∀ ns : List Int, PyData.canLayAll0 (ns.map PyData.int) = true
  | [] => by simp [PyData.canLayAll0]
  | n :: r => by
    show PyData.canLayAll0 (PyData.int n :: r.map PyData.int) = true
    simp only [PyData.canLayAll0, PyData.canLay0, canInts r, Bool.and_self]
theorem depthInts : ∀ ns : List Int, PyData.depthAll (ns.map PyData.int) ≤ 1
  | [] => by simp [PyData.depthAll]
  | n :: r => by
    show PyData.depthAll (PyData.int n :: r.map PyData.int) ≤ 1
    have ih := depthInts r
    simp only [PyData.depthAll, PyData.depth]
    omega
theorem shapedInts (ns : List Int) : SeqAt.shaped (.list (ns.map PyData.int)) = true := by
  have d := depthInts ns
  have h1 : PyData.canLay0 (.list (ns.map PyData.int)) = true := by
    simp only [PyData.canLay0]
    exact canInts ns
  have h2 : PyData.depth (.list (ns.map PyData.int)) ≤ 64 := by
    simp only [PyData.depth]
    omega
  unfold SeqAt.shaped
  rw [h1, Bool.true_and]
  exact decide_eq_true h2
theorem eqvInts0 (ns : List Int) : PyData.eqv (.list (ns.map PyData.int)) (.list []) = decide (ns = []) := by
  cases ns with
  | nil => simp [PyData.eqv, PyData.eqvAll]
  | cons a r => simp [PyData.eqv, PyData.eqvAll]

/-- the rest by what holds ahead of it -/
theorem g_cut {t u : TS} {D : Ends} {σ : L2.St} {H : Hp} (W : L2.St → Hp → Prop) (hu : ∀ σ' H', W σ' H' → u D σ' H') (ht : ∀ R : L2.St → Hp → Prop, (∀ σ' H', W σ' H' → R σ' H') → t { D with nx := R } σ H) : tSeq t u D σ H := ht (u D) hu
theorem g_new {n : Nat} {W : Prop} (h : n ≤ sizeLine) (w : W) : n ≤ sizeLine ∧ W := ⟨h, w⟩
theorem g_rt {nx bk ct : L2.St → Hp → Prop} {rt : VK} {v : V} {H : Hp} (h : rt v H) : Ends.rt { nx := nx, rt := rt, bk := bk, ct := ct } v H := h
theorem g_nx {nx bk ct : L2.St → Hp → Prop} {rt : VK} {σ : L2.St} {H : Hp} (h : nx σ H) : Ends.nx { nx := nx, rt := rt, bk := bk, ct := ct } σ H := h
theorem small_of {n : Nat} (h : n ≤ 1000000) : n ≤ sizeLine := Nat.le_trans h (by decide)

/-- a rest by a written number, its value forgotten -/
theorem g_modC {i j : Int} {H : Hp} {Q : VK} (hj : 0 < j) (q : ∀ x : Int, 0 ≤ x → x < j → Q (.int x) H) : rI (fun _ j => 0 < j) (fun i j => .int (i % j)) (.int i) (.int j) H Q :=
  ⟨i, j, rfl, rfl, hj, q _ (Int.emod_nonneg i (by omega)) (Int.emod_lt_of_pos i hj)⟩
theorem pow3_ok {x z a c e : Int} (x0 : 0 ≤ x) (x1 : x < 2147483648) (z0 : 0 ≤ z) (z1 : z ≤ 100000) (a0 : 0 ≤ a) (a1 : a ≤ 1000) (c0 : 0 ≤ c) (c1 : c ≤ 1000000) (e0 : 0 ≤ e) (e1 : e ≤ 1000) : CPow (x * (2 * z + a) + c * z * z + e) 3 := by
  have h1 : x * (2 * z + a) ≤ 2147483648 * (2 * z + a) := Int.mul_le_mul_of_nonneg_right (by omega) (by omega)
  have h2 : 0 ≤ x * (2 * z + a) := Int.mul_nonneg x0 (by omega)
  have h3 : c * z ≤ 1000000 * z := Int.mul_le_mul_of_nonneg_right c1 z0
  have h4 : 0 ≤ c * z := Int.mul_nonneg c0 z0
  have h5 : c * z * z ≤ (1000000 * 100000) * z := Int.mul_le_mul_of_nonneg_right (by omega) z0
  have h6 : 0 ≤ c * z * z := Int.mul_nonneg h4 z0
  exact ⟨by decide, by decide, by omega⟩
theorem abs_ge {i n : Int} (h : n ≤ (if i < 0 then -i else i)) (m : Int) (hm : m = if i < 0 then -i else i) : n ≤ m := by
  rw [hm]
  exact h

section
variable {X : Cx} {H : Hp} {Q : VK} {K : PySem.W.Frag} {σ : L2.St}
/-- isinstance by a written class -/
theorem g_isi {x : V} {n c : String} {b : Bool} (ty : TyX K H x (.type n)) (h : kitB n c = some b) (q : Q (.bl b) H) : rIsi K [x, .ty c] H Q := ⟨x, .ty c, .type n, .type c, b, rfl, .ty c, ty, kit_ty h, q⟩
theorem g_notInS {c : Nat} {z : Str} (q : Q (.bl (!decide (c ∈ z.cps.toList))) H) : rNotInS (.str ⟨#[c]⟩) (.str z) H Q := ⟨c, z, rfl, rfl, q⟩
theorem g_inS {c : Nat} {z : Str} (q : Q (.bl (decide (c ∈ z.cps.toList))) H) : rInS (.str ⟨#[c]⟩) (.str z) H Q := ⟨c, z, rfl, rfl, q⟩
def rTxtB (f : Str → Bool) : V → List V → Hp → VK → Prop := fun x xs H Q => ∃ a, x = .str a ∧ xs = [] ∧ True ∧ Q (.bl (f a)) H
theorem mt_isasciiB : MtR X "str.isascii" (rTxtB Txt.isascii) := mt_isascii
theorem mt_islowerB : MtR X "str.islower" (rTxtB Txt.islower) := mt_islower
theorem mt_isalphaB : MtR X "str.isalpha" (rTxtB Txt.isalpha) := mt_isalpha
theorem g_txtB {f : Str → Bool} {a : Str} (q : Q (.bl (f a)) H) : rTxtB f (.str a) [] H Q := ⟨a, rfl, rfl, trivial, q⟩
theorem g_tyS {a : Str} {W : Prop} (w : W) : tyV K "str" (.str a) H ∧ W := ⟨rfl, w⟩
theorem g_chain {r r' : R2} {ta tb tc : TE} (h : ta σ H fun x H1 => tb σ H1 fun y H2 => r x y H2 fun z H3 => ∃ k, z = .bl k ∧ (if k = true then tc σ H3 fun w' H4 => r' y w' H4 Q else Q (.bl false) H3)) : tChain r r' ta tb tc σ H Q := h
theorem op_addS : OpR X (binaryOp .Add) rAddS := op_add_str
theorem g_addS {a b : Str} (h : a.length + b.length ≤ sizeLine) (q : Q (.str (a ++ b)) H) : rAddS (.str a) (.str b) H Q := ⟨a, b, rfl, rfl, h, q⟩
end

section
variable {H : Hp} {Q : VK} {K : PySem.W.Frag} {σ : L2.St}
def rJoin (K : PySem.W.Frag) : V → List V → Hp → VK → Prop := fun x xs H Q => ∃ a p, ∃ ys : List Str, x = .str a ∧ xs = [.ref p] ∧ (SqL K H p (ys.map V.str) ∨ SqT K H p (ys.map V.str)) ∧ (ys.map (·.length)).sum + ys.length * a.length ≤ 16777216 ∧ Q (.str (Txt.join a ys)) H
theorem pe_joinJ {X : Cx} {o e : Expr} {to te : TE} {apos pos : Pos} (ho : PE X o to) (he : PE X e te) (hs : starEach [e] X.env = [(false, eval e X.env)] := by rfl) (hbase : attributeBase o "join" X.env (eval o X.env) = eval o X.env := by rfl) (hline : (apos.endLine == pos.line) = true := by rfl) :
    PE X (.Call (.Attribute o "join" apos) [e] [] pos) (tM1 (rJoin X.K) to te) := pe_join ho he hs hbase hline
theorem g_m1 {r : V → List V → Hp → VK → Prop} {to te : TE} (h : to σ H fun x H1 => (∃ a, x = .str a) ∧ te σ H1 fun y H2 => r x [y] H2 Q) : tM1 r to te σ H Q := h
theorem g_isStr {a : Str} {W : Prop} (w : W) : (∃ b, V.str a = .str b) ∧ W := ⟨⟨a, rfl⟩, w⟩
theorem g_join {a : Str} {p : Addr} {ys : List Str} (h : SqL K H p (ys.map V.str)) (z : (ys.map (·.length)).sum + ys.length * a.length ≤ 16777216) (q : Q (.str (Txt.join a ys)) H) : rJoin K (.str a) [.ref p] H Q := ⟨a, p, ys, rfl, rfl, .inl h, z, q⟩
end
theorem join_signs (l : List Nat) : Txt.join (Str.ofString "") (l.map fun c => (⟨#[c]⟩ : Str)) = ⟨l.toArray⟩ := by
  have e : TL.tl (Txt.join (Str.ofString "") (l.map fun c => (⟨#[c]⟩ : Str))) = l := by
    rw [TL.join_eq, TL.tl_join]
    have z : TL.tl (Str.ofString "") = [] := by decide +kernel
    rw [z, List.map_map]
    have flat : ∀ l : List (List Nat), TL.joinL [] l = l.flatten := by
      intro l
      induction l with
      | nil => rfl
      | cons p r ih =>
        cases r with
        | nil =>
          show p = _
          simp
        | cons q r =>
          show p ++ ([] ++ TL.joinL [] (q :: r)) = _
          rw [List.nil_append, ih]
          rfl
    rw [flat]
    induction l with
    | nil => rfl
    | cons c r ih =>
      rw [List.map_cons, List.flatten_cons, ih]
      rfl
  refine TL.ext_tl ?_
  rw [e]

/-! ### loops and comprehensions: what is left behind the walked thing -/
def FOR (J : It) (g : TG) (tb : TS) (D : Ends) (σ : L2.St) (H1 : Hp) : Prop := ∃ W : Nat → Nat → L2.St → Hp → Prop, (∃ m, W 0 m σ H1) ∧ ∀ i m σ H, W i m σ H →
  (J.stop i H ∧ D.nx σ H) ∨ (J.go i H ∧ ∃ N : L2.St → Hp → Prop, (∀ σ' H', N σ' H' → ∃ m', m' < m ∧ W (i + 1) m' σ' H') ∧ ∀ x H', J.yld i H x H' → g x σ H' fun σ2 H2 => tb { D with nx := N, ct := N, bk := D.nx } σ2 H2)
theorem g_for {wi : TI} {g : TG} {tb : TS} {D : Ends} {σ : L2.St} {H : Hp} (h : wi σ H fun J H1 => FOR J g tb D σ H1) : tFor wi g tb D σ H := h
def LCF (J : It) (g : TG) (tt : TT) (te : TE) (vs : List Nat) (σ : L2.St) (H1 : Hp) (D : Addr) (Q : VK) : Prop := ∃ W : Nat → Nat → Hp → Prop, (∃ m, W 0 m (upd H1 D (.lst []))) ∧ ∀ i m H, W i m H →
  (J.stop i H ∧ Q (.ref D) H) ∨ (J.go i H ∧ ∃ Nx : Hp → Prop, (∀ H', Nx H' → ∃ m', m' < m ∧ W (i + 1) m' H') ∧ ∀ x H', J.yld i H x H' → g x (wipe σ vs) H' fun σ2 H2 => wipe σ2 vs = wipe σ vs ∧ tt σ2 H2 fun b H3 =>
    if b = true then te σ2 H3 fun y H4 => ∃ acc, H4 D = some (.lst acc) ∧ acc.length < sizeLine ∧ Nx (upd H4 D (.lst (acc ++ [y]))) else Nx H3)
theorem g_lc {wi : TI} {g : TG} {tt : TT} {te : TE} {vs : List Nat} {σ : L2.St} {H : Hp} {Q : VK} (h : wi σ H fun J H1 => ∀ D, H1 D = none → LCF J g tt te vs σ H1 D Q) : tLc wi g tt te vs σ H Q := h
theorem g_iL {K : PySem.W.Frag} {tl : TE} {σ : L2.St} {H : Hp} {R : It → Hp → Prop} (h : tl σ H fun x H1 => ∃ a, x = .ref a ∧ (∃ xs, SqL K H1 a xs) ∧ R (Itl K a) H1) : iList K tl σ H R := h
theorem g_iT {K : PySem.W.Frag} {tl : TE} {σ : L2.St} {H : Hp} {R : It → Hp → Prop} (h : tl σ H fun x H1 => ∃ a, x = .ref a ∧ (∃ xs, SqT K H1 a xs) ∧ R (Itt K a) H1) : iTup K tl σ H R := h
theorem g_iS {te : TE} {σ : L2.St} {H : Hp} {R : It → Hp → Prop} (h : te σ H fun v H1 => ∃ x, v = .str x ∧ R (Its x) H1) : iStr te σ H R := h
theorem g_atL {K : PySem.W.Frag} {a : Addr} {xs : List V} {H : Hp} {W : Addr → Prop} (h : SqL K H a xs) (w : W a) : ∃ b, V.ref a = .ref b ∧ (∃ xs, SqL K H b xs) ∧ W b := ⟨a, rfl, ⟨xs, h⟩, w⟩
theorem g_atT {K : PySem.W.Frag} {a : Addr} {xs : List V} {H : Hp} {W : Addr → Prop} (h : SqT K H a xs) (w : W a) : ∃ b, V.ref a = .ref b ∧ (∃ xs, SqT K H b xs) ∧ W b := ⟨a, rfl, ⟨xs, h⟩, w⟩
theorem g_atS {z : Str} {W : Str → Prop} (w : W z) : ∃ x, V.str z = .str x ∧ W x := ⟨z, rfl, w⟩

/-! ### a call by keywords alone -/
section
variable {X : Cx} {CX : CXT} {k : Nat} {f : Addr} {fd : FuncData} {ps ks : List Str} {sp : Sp} {E : XK} {x : Str} {p pos : Pos} {kws : List Keyword} {tk : TA} {g : List Value → List Value → List Value} {gV : List V → List V → List V}
theorem pe_callK0 (F : FnOk X.prog X.w X.K X.mg X.base CX k f fd ps sp) (hr : Room k X.A) (hg : Gl X x) (hm : X.mg x = some (.ref f)) (hk : PySem.W.keepIn X.K (.ref f) = true) (hb : KBinds X.K fd ps ks g gV) (hx : Passes CX X E)
    (hkw : PK X kws tk) (hall : (backToKw pos (keywordEach kws X.env)).all (·.1.isSome) = true := by rfl) (hks : (backToKw pos (keywordEach kws X.env)).filterMap (·.1) = ks := by rfl)
    (hdb : (x == ("__debug__" : Str)) = false := by decide) (hpl : ((backTo pos (starEach [] X.env)).any (·.1) || (backToKw pos (keywordEach kws X.env)).any (·.1.isNone)) = false := by rfl) :
    PE X (.Call (.Name x p) [] kws pos) (L2.tCallK sp gV E tNil tk) := by
  constructor
  intro pins s σ H Q I h
  apply wpAny_Call_Name_kw
  refine ld_glob I hg hm ?_ hdb
  refine PySem.W.callWith_KW0 (h₀ := X.base) I.ok.mod.kin hk hall ?_ hpl
  refine thn (hkw.run pos pins s σ H _ I h) ?_
  rintro ws s2 ⟨zs, H2, I2, rz, q2⟩
  refine ⟨I2.kIn, ?_⟩
  rw [hks]
  exact run_fnk F hr hb hx I2 .nil rz q2
end
/-- one parameter, handed over by its name -/
theorem kb_one {K : PySem.W.Frag} {x qual a : Str} {st : Stmt} {f : Addr} {fd : FuncData} (F : Fun K x qual st f fd)
    (h0 : ∀ (kV doc pm : Value) (an : Option Addr) (cdv ct u : Value), bindArgs (PySem.W.fnOf x qual (defArgs st) (defBody st) (defScope st) .none kV doc pm an cdv ct) ⟨[u], []⟩ = pure [(a, u)])
    (h1 : ∀ (kV doc pm : Value) (an : Option Addr) (cdv ct u : Value), bindArgs (PySem.W.fnOf x qual (defArgs st) (defBody st) (defScope st) .none kV doc pm an cdv ct) ⟨[], [(a, u)]⟩ = pure [(a, u)]) :
    KBinds K fd [a] [a] (fun us ws => us ++ ws) (fun vs zs => vs ++ zs) := by
  obtain ⟨oc, od, kV, doc, pm, an, cdv, ct, osl, rfl, lk, hcd⟩ := F.ex
  refine ⟨fun s us ws _ hl => ?_, fun r q => r.append q⟩
  match us, ws, hl with
  | [u], [], _ => exact .of_eq (h0 kV doc pm an cdv ct u)
  | [], [u], _ => exact .of_eq (h1 kV doc pm an cdv ct u)
theorem g_repr {K : PySem.W.Frag} {H : Hp} {Q : VK} {a : Addr} (d : PyData) (hd : Dp K H (.ref a) d) (sh : d.showable = true ∧ d.hasDict = false ∧ d.depth ≤ 40 ∧ d.shown.length ≤ sizeLine) (q : Q (.str d.shown) H) : rRepr K [.ref a] H Q :=
  ⟨a, d, rfl, hd, sh.1, sh.2.1, sh.2.2.1, sh.2.2.2, q⟩
theorem g_dnew {σ : L2.St} {H : Hp} {Q : VK} (q : ∀ d, H d = none → Q (.ref d) (upd H d (.dK []))) : tDNewK σ H Q := q
theorem g_disp1 {σ : L2.St} {H : Hp} {Q : VK} {tk tv : TE} (q : ∀ p, H p = none → tk σ (upd H p (.dK [])) fun x H1 => tv σ H1 fun y H2 => H2 p = some (.dK []) ∧ ∃ kvs : List (Key × V), [(x, y)] = kvs.map (fun kv => (kV kv.1, kv.2)) ∧ kvs.length ≤ 15 ∧ Q (.ref p) (upd H2 p (.dK (mergeK [] kvs)))) : tDisp [(tk, tv)] σ H Q := q
theorem g_pair1 {A : Prop} {W : List (Key × V) → Prop} {x y : V} (k : Key) (e : x = kV k) (h : A) (q : W [(k, y)]) : A ∧ ∃ kvs : List (Key × V), [(x, y)] = kvs.map (fun kv => (kV kv.1, kv.2)) ∧ kvs.length ≤ 15 ∧ W kvs :=
  ⟨h, [(k, y)], by rw [e]; rfl, by (show 1 ≤ 15); decide, q⟩
end EvG

/-! Errors of own classes, held as values: made by place and by name, stored into, read, asked for their class. -/
namespace EvX
open PySem PySem.Spec PySem.Calls PyProof.Rows L2
section
variable {P : Program} {w : World} {M : Model} {A : Around} {E : Value → Shared → Prop} {R : Result → Shared → Prop} {h : Heap} {g : Array GenState} {d : Drawn} {t : Nat} {os : OsState}
variable {nm q : Str} {C N : Addr} {bs bm bmB : List Value} {hd : Bool} {sn : List Str} {sub : List Value} {ab : Bool} {col : Option Bool} {dd : Option Addr} {k0 k1 k2 k3 k5 : Option Value} {B newId initId : String}
  {us : List Value} {kw : List (Str × Value)}
theorem chk_new (F : ExcBaseFacts B newId initId bmB) (hT : ∀ Y : String, bm.contains (.type Y) = bmB.contains (.type Y)) {Q : Unit → Shared → Prop} (hC : h.get? C = some (excClassObj nm q C N bs bm hd sn sub ab col dd k0 k1 k2 k3 k5 newId))
    (hq : Q () ⟨h, g, d, t, os⟩) : wpAny M A (checkBuiltinCall newId ⟨.ref C :: us, kw⟩) Q E ⟨h, g, d, t, os⟩ := by
  have c1 : (Value.ref C :: bm).contains (.type B) = true := by
    rw [List.contains_cons, hT, F.hasB]
    exact Bool.or_true _
  have st := F.noStar
  simp only [checkBuiltinCall, F.newKind, F.newSplit, F.newRow]
  repeat (first
    | refine wpAny_loadPart_at hC ?_
    | (refine wpAny_isSubtype_exc hC ?_; rw [c1])
    | refine wpAny_staticBase_exc hC ?_
    | refine wpAny_madeBy_exc hC ?_
    | simp only [bne_self_eq_false, Bool.false_eq_true, if_false]
    | wp_step)
  exact hq
theorem run_new (F : ExcBaseFacts B newId initId bmB) (hT : ∀ Y : String, bm.contains (.type Y) = bmB.contains (.type Y)) (hC : h.get? C = some (excClassObj nm q C N bs bm hd sn sub ab col dd k0 k1 k2 k3 k5 newId)) (hz : us.length ≤ sizeLine)
    (hq : R (.ok (.ret (.ref (h.objs.size + 1)))) ⟨(h.push (PySem.W.kdv_tup us)).push (PySem.HandSPX.excO C h.objs.size), g, d, t, os⟩) : codeAny (model P w) A (.builtin newId ⟨.ref C :: us, kw⟩) R ⟨h, g, d, t, os⟩ := by
  have ends := F.ends
  have c1 : (Value.ref C :: bm).contains (.type B) = true := by
    rw [List.contains_cons, hT, F.hasB]
    exact Bool.or_true _
  have c2 : (Value.ref C :: bm).contains (.type "AttributeError") = false := by
    rw [List.contains_cons, hT, F.noAttr]
    rfl
  have c3 : (Value.ref C :: bm).contains (.type "NameError") = false := by
    rw [List.contains_cons, hT, F.noName]
    rfl
  apply codeAny_builtinAt F.entry
  unfold Builtin.«BaseException.__new__»
  apply PySem.wpAt_bind
  show PySem.wpAt _ _ _ (stack >>= _) _ _ _
  refine PySem.wpAt_bind (PySem.wpAt_stack fun p r => PySem.wpAt_of_wpAny ?_)
  wp_walk
  apply PySem.wpAt_of_wpAny
  rw [F.owner]
  repeat (first
    | with_reducible refine wpAny_madeHere_exc F.canon hC ?_
    | with_reducible refine wpAny_loadPart_at hC ?_
    | (with_reducible refine wpAny_isSubtype_exc hC ?_
       first | rw [c1] | rw [c2] | rw [c3])
    | wp_step)
  show R _ _
  rw [Heap.size_push]
  exact hq
theorem tcall_own (F : ExcBaseFacts B newId initId bmB) (hT : ∀ Y : String, bm.contains (.type Y) = bmB.contains (.type Y)) {fI : Addr} {Q : Fin → Shared → Prop} (hC : h.get? C = some (excClassObj nm q C N bs bm hd sn sub ab col dd k0 k1 k2 k3 k5 newId))
    (hi : PySem.W.Looks (model P w) h (typeLookup (.ref C) "__init__") (some (.ref fI))) (hb : ∀ self, PySem.W.Looks (model P w) h (bindSpecial (.ref fI) self) (.ref fI, [self])) (hz : us.length ≤ sizeLine)
    (hq : codeAny (model P w) A (.call (.ref fI) ⟨.ref (h.objs.size + 1) :: us, kw⟩) (fun r s' => match r with | .ok (.ret v) => v = .none ∧ Q (.done (.ret (.ref (h.objs.size + 1)))) s' | .ok _ => False | .error e => E e s')
      ⟨(h.push (PySem.W.kdv_tup us)).push (PySem.HandSPX.excO C h.objs.size), g, d, t, os⟩) :
    wpAny (model P w) A (Builtin.«type.__call__» ⟨.ref C :: us, kw⟩) Q E ⟨h, g, d, t, os⟩ := by
  repeat (first
    | with_reducible refine wpAny_loadPart_at hC ?_
    | with_reducible refine wpAny_madeBy_exc hC ?_
    | wp_step)
  refine codeAny_call_builtin_code (Code.quiet_builtin _ F.quiet) (chk_new F hT hC ?_)
  refine run_new F hT hC hz ?_
  show wpAny _ _ _ _ _ _
  have kept : ∀ b o, h.get? b = some o → ((h.push (PySem.W.kdv_tup us)).push (PySem.HandSPX.excO C h.objs.size)).get? b = some o := fun b o e => Heap.get?_push_of_some _ (Heap.get?_push_of_some _ e)
  have there : ((h.push (PySem.W.kdv_tup us)).push (PySem.HandSPX.excO C h.objs.size)).get? (h.objs.size + 1) = some (PySem.HandSPX.excO C h.objs.size) := by heap_get
  have c1 : (Value.ref C :: bm).contains (.ref C) = true := by simp
  have hC2 := kept _ _ hC
  have i1 := hi.keeps kept
  have b1 := (hb (.ref (h.objs.size + 1))).keeps kept
  unfold isInstance
  repeat (first
    | with_reducible refine wpAny_loadPart_at there ?_
    | (with_reducible refine wpAny_isSubtype_exc hC2 ?_; rw [c1])
    | wp_step)
  show wpAny _ _ (typeLookup (.ref C) _) _ _ _
  apply i1.at
  refine wpAny_holding (wpAny_bind (b1.at ?_))
  refine wpAny_bind (wpAny_call (codeAny_mono hq fun r s' z => ?_))
  cases r with
  | error e => exact z
  | ok f =>
    cases f with
    | ret v =>
      obtain ⟨rfl, z⟩ := z
      first
        | exact wpAny_pure (wpAny_pure z)
        | (wp_walk; exact z)
    | next => exact z.elim
    | brk => exact z.elim
    | cont => exact z.elim
theorem call_made (F : ExcBaseFacts B newId initId bmB) (hT : ∀ Y : String, bm.contains (.type Y) = bmB.contains (.type Y)) {fI : Addr} (hC : h.get? C = some (excClassObj nm q C N bs bm hd sn sub ab col dd k0 k1 k2 k3 k5 newId))
    (hi : PySem.W.Looks (model P w) h (typeLookup (.ref C) "__init__") (some (.ref fI))) (hb : ∀ self, PySem.W.Looks (model P w) h (bindSpecial (.ref fI) self) (.ref fI, [self])) (hz : us.length ≤ sizeLine)
    (hq : codeAny (model P w) (A.under (.builtin "type.__call__" ⟨.ref C :: us, kw⟩)) (.call (.ref fI) ⟨.ref (h.objs.size + 1) :: us, kw⟩) (PySem.W.InitBack (h.objs.size + 1) R)
      ⟨(h.push (PySem.W.kdv_tup us)).push (PySem.HandSPX.excO C h.objs.size), g, d, t, os⟩) :
    codeAny (model P w) A (.call (.ref C) ⟨us, kw⟩) R ⟨h, g, d, t, os⟩ := by
  have f1 := tc_lookup
  have f2 := tc_bind (.ref C)
  have ty : (⟨h, g, d, t, os⟩ : Shared).TypeIs (.ref C) "type" := ⟨_, hC, rfl⟩
  apply codeAny_of_tree
  show wpAny _ _ (callAny (.ref C) _) _ _ _
  repeat (any_goals (first
    | assumption
    | with_reducible refine wpAny_loadPart_at hC ?_
    | wp_step))
  refine ⟨rfl, ?_⟩
  refine codeAny_call_builtin_at (Code.quiet_builtin _ (by decide +kernel)) entry_typeCall (wpAny_check_type_call_sub hC (tcall_own F hT hC hi hb hz ?_))
  refine codeAny_mono hq fun r s' z => ?_
  cases r with
  | error e => exact z
  | ok f => cases f <;> exact z
end
end EvX

namespace EvX
open PySem PySem.Spec PySem.Calls PyProof.Rows L2 Builtin.ObjectAttr
/-- what a class of errors says of its things, so that they are asked and read -/
structure AskC (K : PySem.W.Frag) (C : Addr) : Prop where
  hd : PySem.W.hasDictIn K C = true
  ga : PySem.W.findIn K (.ref C) "__getattribute__" = some (some (.builtin "BaseException.__getattribute__"))
  gg : PySem.W.findIn K (.ref C) "__getattr__" = some none
  exC : PySem.W.subIn K (.ref C) (.type "BaseException") = some true
  ca : PySem.W.findIn K (.ref C) "__class__" = some (some (.builtin "object.__class__"))
  cn : PySem.W.specialIn K (.builtin "object.__class__") "__get__" = some (some (.builtin "getset_descriptor.__get__"))
  ct : PySem.W.takesIn K (.builtin "object.__class__") = some true
  cm : PySem.W.mroIn K C (.type "object") = some true
  keep : PySem.W.keepIn K (.ref C) = true
/-- and one that has its own __init__, over the built-in class B -/
structure ErrC (K : PySem.W.Frag) (C : Addr) (B newId initId : String) (bmB : List Value) : Prop where
  base : ExcBaseFacts B newId initId bmB
  sf : StoreFacts B bmB "object.__setattr__" "object"
  made : PySem.W.excInitIn K C bmB newId = true
  over : PySem.W.excOver K C bmB = true
  sa : PySem.W.findIn K (.ref C) "__setattr__" = some (some (.builtin "object.__setattr__"))
  ask : AskC K C
def eOb (C t : Addr) (d : Option Addr) : Obj := { cls := .ref C, dict := d, data := .fields #[.ref t, .none, .none, .none, .bool false, .none] }
section
variable {X : Cx} {pins : List (Addr × Obj)} {σ : L2.St} {H : Hp} {s : Shared} {a C dx : Addr} {f : Str} {y : V} {u : Value} {fs : List (Str × V)} {Q : Unit → Shared → Prop} {E : Value → Shared → Prop} {A : Around} {B newId initId : String} {bmB : List Value}
theorem two_written {h' : Heap} {n : Nat} (I : Inv X pins σ H s) (e : H a = some (exo a C none)) (k : ∀ b o, b ≠ a → s.heap.get? b = some o → h'.get? b = some o) (dn : s.heap.objs.size ≤ dx) {t : Addr} (hx : h'.get? a = some (eOb C t (some dx)))
    {mA : Str → Option Value} (hn : h'.Ns1 dx mA) (r : ∀ g, RelO (fs.lookup g) (mA g)) :
    Inv X pins σ (upd (upd H dx (exd dx fs)) a (exo a C (some dx))) { s with heap := h', toks := n } := by
  have gone : H dx = none := I.hok.fresh dn
  have past : ∀ {b : Addr} {o : Obj}, s.heap.get? b = some o → b ≠ dx := by
    intro b o q z
    subst z
    exact absurd (Heap.lt_size q) (Nat.not_lt.mpr dn)
  have off : ∀ {b : Addr}, H b = none → b ≠ a := by
    intro b n z
    rw [z, e] at n
    cases n
  have un : Un X.fs [] H (upd (upd H dx (exd dx fs)) a (exo a C (some dx))) s.heap h' := by
    refine ⟨?_, ?_, ?_, ?_, ?_, ?_, ?_⟩
    · intro b o q n _ _
      exact k b o (off n) q
    · intro b o q n _ _
      exact ⟨o.slots, k b o (off n) q⟩
    · intro b o q n _
      rw [upd_ne (off n), upd_ne (past q)]
      exact n
    · intro b o q _
      by_cases z : b = a
      · subst z
        exact ⟨_, hx⟩
      · exact ⟨o, k b o z q⟩
    · intro b xs q
      rw [upd_ne (at_ne e q exo_tup), upd_ne (ne_of_none q gone)]
      exact q
    · intro b o v q
      rw [upd_ne (at_ne e q exo_frz), upd_ne (ne_of_none q gone)]
      exact q
    · intro b ps q
      refine ⟨#[], ?_⟩
      rw [upd_ne (at_ne e q exo_tbl), upd_ne (ne_of_none q gone), q]
      simp
  refine I.un un ?_
  intro b o q
  by_cases z : b = a
  · subst z
    rw [upd_same] at q
    cases q
    exact exo_ok hx
  rw [upd_ne z] at q
  by_cases z2 : b = dx
  · subst z2
    rw [upd_same] at q
    cases q
    exact exd_ok hn r
  rw [upd_ne z2] at q
  refine (I.hok b o q).stay ?_ ?_ ?_
  · intro c v hc w
    refine k c v ?_ w
    rcases hc with hc | hc
    · rw [hc]
      exact z
    · exact at_ne e hc exo_own
  · intro c hc
    rw [upd_ne (at_ne e hc exo_own), upd_ne (ne_of_none hc gone)]
    exact hc
  · intro c xs hc
    rw [upd_ne (at_ne e hc exo_tup), upd_ne (ne_of_none hc gone)]
    exact hc
/-- the first field -/
theorem put_new (T : ErrC X.K C B newId initId bmB) (I : Inv X pins σ H s) (e : H a = some (exo a C none)) (ht : PySem.W.takerIn X.K C f = some none) (ry : RelV y u)
    (h : ∀ dx s', H dx = none → dx ≠ a → Inv X pins σ (upd (upd H dx (exd dx [(f, y)])) a (exo a C (some dx))) s' → Q () s') : wpAny (model X.prog X.w) A (setAttr (.ref a) f u) Q E s := by
  obtain ⟨t1, ho⟩ := exo_at I.hok e
  obtain ⟨cd, hc, hd⟩ := PySem.W.any_some T.ask.hd
  have low : a < s.heap.objs.size := Heap.lt_size ho
  have new : H s.heap.objs.size = none := I.hok.fresh (Nat.le_refl _)
  obtain ⟨hp, g, d, tk, os⟩ := s
  refine PySem.W.set_plain I.kIn (ox := eOb C t1 none) (od := none) ⟨ho, rfl, rfl, trivial⟩ T.sa ?_
  refine PySem.W.osa_openX (od := none) T.sf I.kIn ⟨ho, rfl, rfl, trivial⟩ T.over ht fun b => ?_
  refine wpAny_bind (wpAny_pure (wpAny_bind (PySem.W.instanceDict_exc ho (PySem.W.looks_clsIn I.kIn hc) hd ?_)))
  show wpAny _ _ (storeInDict hp.objs.size (.str f _) f u) _ _ _
  have od : ((hp.push (PySem.W.dictOf [] 0)).update a fun o => { o with dict := some hp.objs.size }).get? hp.objs.size = some (PySem.W.dictOf [] 0) := (Heap.get?_update_ne _ _ _ _ (Nat.ne_of_gt low)).trans (Heap.get?_push_at rfl rfl)
  have oa : ((hp.push (PySem.W.dictOf [] 0)).update a fun o => { o with dict := some hp.objs.size }).get? a = some (eOb C t1 (some hp.objs.size)) := Heap.get?_update_self _ (Heap.get?_push_of_some _ ho) rfl
  refine PySem.HandSPX.store_in_new ⟨_, #[], _, od, rfl, fun e he => absurd he (by simp), fun _ => rfl⟩ ?_
  intro h' tk' hn sb
  refine h hp.objs.size ⟨h', g, d, tk', os⟩ new (Nat.ne_of_gt low) (two_written (s := ⟨hp, g, d, tk, os⟩) I e ?_ (Nat.le_refl _) (t := t1) ?_ hn (relO_put (fs := []) ry fun _ => trivial))
  · intro b o hb q
    exact (sb.2 b (Nat.ne_of_lt (Heap.lt_size q))).trans ((Heap.get?_update_ne _ _ _ _ hb).trans (Heap.get?_push_of_some _ q))
  · exact (sb.2 a (Nat.ne_of_lt low)).trans oa
/-- a further field -/
theorem put_more (T : ErrC X.K C B newId initId bmB) (I : Inv X pins σ H s) (e : H a = some (exo a C (some dx))) (ed : H dx = some (exd dx fs)) (hl : fs.length ≤ 900) (ht : PySem.W.takerIn X.K C f = some none) (ry : RelV y u)
    (h : ∀ s', Inv X pins σ (upd H dx (exd dx ((f, y) :: fs))) s' → Q () s') : wpAny (model X.prog X.w) A (setAttr (.ref a) f u) Q E s := by
  obtain ⟨t1, ho⟩ := exo_at I.hok e
  obtain ⟨mA, hns, rel⟩ := exd_at I.hok ed
  obtain ⟨cd, hc, hd⟩ := PySem.W.any_some T.ask.hd
  have hw := within_of rel
  obtain ⟨hp, g, d, tk, os⟩ := s
  obtain ⟨oD, _, _, hoD, _, _⟩ := hns.count hw
  refine PySem.W.set_plain I.kIn (ox := eOb C t1 (some dx)) (od := some oD) ⟨ho, rfl, rfl, hoD⟩ T.sa ?_
  refine PySem.W.osa_openX (od := some oD) T.sf I.kIn ⟨ho, rfl, rfl, hoD⟩ T.over ht fun b => ?_
  refine wpAny_bind (wpAny_pure (wpAny_bind (wpAny_bind (wpAny_loadPart ho (wpAny_bind ((PySem.W.looks_clsIn I.kIn hc).at ?_))))))
  rw [hd]
  refine wpAny_pure (a := some dx) ?_
  show wpAny _ _ (storeInDict dx (.str f _) f u) _ _ _
  refine PySem.OEX.store_in_old hns hw (by rw [List.length_map]; omega) ?_
  intro h' tk' hn sb
  have there : ∃ o, h'.get? dx = some o := by
    obtain ⟨o, _, _, q, _⟩ := hn
    exact ⟨o, q⟩
  exact h _ (I.write (x := dx) (e := dx) (o := exd dx ((f, y) :: fs)) (by rw [ed]; exact trivial) (.inl rfl) (fun b o hb q => (sb.2 b hb).trans q) there (exd_ok hn (relO_put ry rel)))
end
end EvX

namespace EvX
open PySem PySem.Spec PySem.Calls PyProof.Rows L2 Builtin.ObjectAttr
abbrev Ext (H H' : Hp) : Prop := Same H H'
theorem Same.rfl {H : Hp} : Ext H H := fun _ _ h => h
theorem Same.trans {H H1 H2 : Hp} (a : Ext H H1) (b : Ext H1 H2) : Ext H H2 := fun c o h => b c o (a c o h)
theorem ext_new {H : Hp} {a : Addr} {o : HO} (h : H a = none) : Ext H (upd H a o) := fun b u q => by
  rw [upd_ne (ne_of_none q h)]
  exact q
/-- an error of the class C with these fields stands at a -/
def IsE (C : Addr) (fs : List (Str × V)) (a : Addr) (H : Hp) : Prop := ∃ d, H a = some (exo a C d) ∧ match d with | none => fs = [] | some dx => H dx = some (exd dx fs)
theorem IsE.ext {C : Addr} {fs : List (Str × V)} {a : Addr} {H H' : Hp} (h : IsE C fs a H) (e : Ext H H') : IsE C fs a H' := by
  obtain ⟨d, h1, h2⟩ := h
  refine ⟨d, e _ _ h1, ?_⟩
  cases d with
  | none => exact h2
  | some dx => exact e _ _ h2
/-- the fields of the new error at a are laid -/
def LaidE (H : Hp) (a C : Addr) (fs : List (Str × V)) (H' : Hp) : Prop := ∃ dx, H dx = none ∧ dx ≠ a ∧ H' a = some (exo a C (some dx)) ∧ H' dx = some (exd dx fs) ∧ ∀ b, b ≠ a → b ≠ dx → H' b = H b
theorem LaidE.isE {H H' : Hp} {a C : Addr} {o : HO} {fs : List (Str × V)} (n : H a = none) (h : LaidE (upd H a o) a C fs H') : IsE C fs a H' ∧ Ext H H' := by
  obtain ⟨dx, h1, h2, h3, h4, h5⟩ := h
  refine ⟨⟨some dx, h3, h4⟩, fun b u q => ?_⟩
  have ba : b ≠ a := ne_of_none q n
  have n2 : H dx = none := by
    rw [upd_ne h2] at h1
    exact h1
  rw [h5 b ba (ne_of_none q n2), upd_ne ba]
  exact q
/-! ### self.f = e in an __init__ -/
def tPut (K : PySem.W.Frag) (f : Str) (to te : TE) : TS := fun D σ H => te σ H fun y H1 => to σ H1 fun x H2 => ∃ a C : Addr, x = .ref a ∧ (∃ B n i bm, ErrC K C B n i bm) ∧ PySem.W.takerIn K C f = some none ∧
  ((H2 a = some (exo a C none) ∧ ∀ H', LaidE H2 a C [(f, y)] H' → D.nx σ H') ∨ ∃ (H0 : Hp) (fs : List (Str × V)), LaidE H0 a C fs H2 ∧ fs.length ≤ 900 ∧ ∀ H', LaidE H0 a C ((f, y) :: fs) H' → D.nx σ H')
theorem ps_put {X : Cx} {o e : Expr} {to te : TE} {f : Str} {p' pos : Pos} (ho : PE X o to) (he : PE X e te) (hs : swapsWith e (some (.Attribute o f p')) pos.line X.env = pure false := by rfl) : PS X (.Assign [.Attribute o f p'] e pos) (tPut X.K f to te) := by
  constructor
  intro pins s σ H D I h
  refine plainObj_wpAny_Assign_Attribute (thn (he.run pins s σ H _ I h) ?_) hs
  rintro v s1 ⟨y, H1, I1, r1, q1⟩
  refine thn (ho.run pins s1 σ H1 _ I1 q1) ?_
  rintro u s2 ⟨x, H2, I2, r2, a, C, rfl, ⟨B, n, i, bm, T⟩, ht, q⟩
  obtain rfl : u = Value.ref a := r2
  rcases q with ⟨ea, q⟩ | ⟨H0, fs, L, hl, q⟩
  · refine put_new T I2 ea ht r1 ?_
    intro dx s' n ne J
    refine ⟨σ, _, J, q _ ⟨dx, n, ne, upd_same, ?_, fun b h1 h2 => ?_⟩⟩
    · rw [upd_ne ne, upd_same]
    · rw [upd_ne h1, upd_ne h2]
  · obtain ⟨dx, h1, h2, h3, h4, h5⟩ := L
    refine put_more T I2 h3 h4 hl ht r1 ?_
    intro s' J
    refine ⟨σ, _, J, q _ ⟨dx, h1, h2, ?_, upd_same, fun b b1 b2 => ?_⟩⟩
    · rw [upd_ne (Ne.symm h2)]
      exact h3
    · rw [upd_ne b2]
      exact h5 b b1 b2
/-! ### C(..) -/
/-- what an __init__ does that keeps its n values as these fields -/
def spI (C : Addr) (n : Nat) (F : List V → List (Str × V)) : Sp := fun vs H Q _ => ∃ a ys, vs = .ref a :: ys ∧ ys.length = n ∧ H a = some (exo a C none) ∧ ∀ H', LaidE H a C (F ys) H' → Q .non H'
section
variable {X : Cx} {CX : CXT} {k : Nat} {fI C : Addr} {fd : FuncData} {ps ks : List Str} {sp : Sp} {x : Str} {p pos : Pos} {e : Expr} {es : List Expr} {kws : List Keyword} {ta tk : TA} {g : List Value → List Value → List Value} {gV : List V → List V → List V} {B newId initId : String} {bmB : List Value}
theorem run_err {pins : List (Addr × Obj)} {σ : L2.St} {H : Hp} {s : Shared} {Q : VK} {us ws : List Value} {vs zs : List V} (T : ErrC X.K C B newId initId bmB) (iC : PySem.W.findIn X.K (.ref C) "__init__" = some (some (.ref fI))) (tI : PySem.W.typeIn X.K (.ref fI) = some (.type "function"))
    (F : FnOk X.prog X.w X.K X.mg X.base CX k fI fd ps sp) (hr : Room (k + 1) X.A) (hb : KBinds X.K fd ps ks g gV) (hx : Passes CX X (fun _ _ _ => False)) (I : Inv X pins σ H s) (r : Vals vs us) (rz : Vals zs ws) (hz : vs.length ≤ 1000)
    (h : ∀ a, H a = none → sp (gV (.ref a :: vs) zs) (upd H a (exo a C none)) (fun v H2 => v = .non ∧ Q (.ref a) H2) (fun _ _ _ => False)) :
    wpAny (model X.prog X.w) X.A (call (.ref C) us (ks.zip ws)) (EP X pins σ Q) X.xe s := by
  obtain ⟨nm, N', qn, bs, bm, hdct, sn, sub, ab, col, dd, k0, k1, k2, k3, k5, hC, hT⟩ := PySem.W.excInit_of I.kIn T.made
  obtain ⟨hp, gs, dr, tk, os⟩ := s
  have up : hp.objs.size ≤ hp.objs.size + 1 := Nat.le_succ _
  have new : H (hp.objs.size + 1) = none := I.hok.fresh up
  have hq := h (hp.objs.size + 1) new
  have kept : ∀ b o, hp.get? b = some o → ((hp.push (PySem.W.kdv_tup us)).push (PySem.HandSPX.excO C hp.objs.size)).get? b = some o := fun b o q => Heap.get?_push_of_some _ (Heap.get?_push_of_some _ q)
  have there : ((hp.push (PySem.W.kdv_tup us)).push (PySem.HandSPX.excO C hp.objs.size)).get? (hp.objs.size + 1) = some (PySem.HandSPX.excO C hp.objs.size) := by heap_get
  have J : Inv X pins σ (upd H (hp.objs.size + 1) (exo (hp.objs.size + 1) C none)) ⟨(hp.push (PySem.W.kdv_tup us)).push (PySem.HandSPX.excO C hp.objs.size), gs, dr, tk, os⟩ :=
    I.laid (t' := tk) kept up (exo_ok there)
  have r1 : Vals (V.ref (hp.objs.size + 1) :: vs) (Value.ref (hp.objs.size + 1) :: us) := .cons rfl r
  have r2 := hb.rel r1 rz
  have many : (g (Value.ref (hp.objs.size + 1) :: us) ws).length = ps.length := r2.length.symm.trans (F.len _ _ _ _ hq)
  have small : us.length ≤ sizeLine := by
    rw [← Paired.length r, sizeLine_eq]
    omega
  refine wpAny_call (call_made T.base hT hC (PySem.W.looks_findIn I.kIn iC) (fun self => PySem.W.bind_fn I.kIn self tI) small ?_)
  refine codeAny_mono (F.run _ X.stack _ _ ⟨Value.ref (hp.objs.size + 1) :: us, ks.zip ws⟩ (g (Value.ref (hp.objs.size + 1) :: us) ws) _ _ (fun _ _ _ => False) (hr.make C us (ks.zip ws)) (J.env0.make C us (ks.zip ws)) (hb.to _ _ ws J.kIn many) r2 hq) ?_
  intro res s' hq'
  cases res with
  | error er => exact hx pins σ _ _ er s' J hq'
  | ok fl =>
    cases fl with
    | next => exact hq'.elim
    | brk => exact hq'.elim
    | cont => exact hq'.elim
    | ret u =>
      obtain ⟨v, H2, I3, rv, ev, q3⟩ := J.after hq'
      subst ev
      exact ⟨rv, V.ref (hp.objs.size + 1), H2, I3, rfl, q3⟩
/-- C(e, ..) -/
def tMkE (C : Addr) (sp : Sp) (gV : List V → List V → List V) (ta tk : TA) : TE := fun σ H Q => ta σ H fun vs H1 => tk σ H1 fun zs H2 => vs.length ≤ 1000 ∧ ∀ a, H2 a = none → sp (gV (.ref a :: vs) zs) (upd H2 a (exo a C none)) (fun v H3 => v = .non ∧ Q (.ref a) H3) (fun _ _ _ => False)
theorem pe_mkE (T : ErrC X.K C B newId initId bmB) (iC : PySem.W.findIn X.K (.ref C) "__init__" = some (some (.ref fI))) (tI : PySem.W.typeIn X.K (.ref fI) = some (.type "function")) (F : FnOk X.prog X.w X.K X.mg X.base CX k fI fd ps sp) (hr : Room (k + 1) X.A)
    (hb : KBinds X.K fd ps [] g gV) (hx : Passes CX X (fun _ _ _ => False)) (hg : Gl X x) (hm : X.mg x = some (.ref C)) (ha : PA X (e :: es) ta)
    (hdb : (x == ("__debug__" : Str)) = false := by decide) (he : starEach (e :: es) X.env = (false, eval e X.env) :: starEach es X.env := by rfl) (hpl : (backTo pos (starEach es X.env)).any (·.1) = false := by rfl) :
    PE X (.Call (.Name x p) (e :: es) [] pos) (tMkE C sp gV ta tNil) := by
  constructor
  intro pins s σ H Q I h
  apply wpAny_Call_Name_kw
  refine ld_glob I hg hm ?_ hdb
  refine PySem.W.callWith_K (h₀ := X.base) I.ok.mod.kin T.ask.keep (thn (ha.run pos pins s σ H _ I h) ?_) he hpl
  rintro us s1 ⟨vs, H1, I1, r, q⟩
  obtain ⟨hz, q⟩ := (show vs.length ≤ 1000 ∧ _ from q)
  exact ⟨I1.kIn, run_err (ws := []) (zs := []) T iC tI F hr hb hx I1 r .nil hz q⟩
/-- C(k = e, ..) -/
theorem pe_mkEK (T : ErrC X.K C B newId initId bmB) (iC : PySem.W.findIn X.K (.ref C) "__init__" = some (some (.ref fI))) (tI : PySem.W.typeIn X.K (.ref fI) = some (.type "function")) (F : FnOk X.prog X.w X.K X.mg X.base CX k fI fd ps sp) (hr : Room (k + 1) X.A)
    (hb : KBinds X.K fd ps ks g gV) (hx : Passes CX X (fun _ _ _ => False)) (hg : Gl X x) (hm : X.mg x = some (.ref C)) (hkw : PK X kws tk)
    (hall : (backToKw pos (keywordEach kws X.env)).all (·.1.isSome) = true := by rfl) (hks : (backToKw pos (keywordEach kws X.env)).filterMap (·.1) = ks := by rfl)
    (hdb : (x == ("__debug__" : Str)) = false := by decide) (hpl : ((backTo pos (starEach [] X.env)).any (·.1) || (backToKw pos (keywordEach kws X.env)).any (·.1.isNone)) = false := by rfl) :
    PE X (.Call (.Name x p) [] kws pos) (tMkE C sp gV tNil tk) := by
  constructor
  intro pins s σ H Q I h
  apply wpAny_Call_Name_kw
  refine ld_glob I hg hm ?_ hdb
  refine PySem.W.callWith_KW0 (h₀ := X.base) I.ok.mod.kin T.ask.keep hall ?_ hpl
  refine thn (hkw.run pos pins s σ H _ I h) ?_
  rintro ws s2 ⟨zs, H2, I2, rz, q⟩
  obtain ⟨hz, q⟩ := (show ([] : List V).length ≤ 1000 ∧ _ from q)
  refine ⟨I2.kIn, ?_⟩
  rw [hks]
  exact run_err (us := []) (vs := []) T iC tI F hr hb hx I2 .nil rz hz q
/-- C(), C without an __init__ of its own -/
theorem pe_mk0 (F : ExcBaseFacts B newId initId bmB) (q : PySem.W.excIn X.K C bmB newId = true) (kC : PySem.W.keepIn X.K (.ref C) = true) (hg : Gl X x) (hm : X.mg x = some (.ref C))
    (hall : (backToKw pos (keywordEach [] X.env)).all (·.1.isSome) = true := by rfl) (hks : (backToKw pos (keywordEach [] X.env)).filterMap (·.1) = [] := by rfl)
    (hdb : (x == ("__debug__" : Str)) = false := by decide) (hpl : ((backTo pos (starEach [] X.env)).any (·.1) || (backToKw pos (keywordEach [] X.env)).any (·.1.isNone)) = false := by rfl) :
    PE X (.Call (.Name x p) [] [] pos) (fun _ H Q => ∀ a, H a = none → Q (.ref a) (upd H a (exo a C none))) := by
  constructor
  intro pins s σ H Q I h
  apply wpAny_Call_Name_kw
  refine ld_glob I hg hm ?_ hdb
  refine PySem.W.callWith_KW0 (h₀ := X.base) I.ok.mod.kin kC hall ?_ hpl
  refine thn ((pk_nil (X := X)).run pos pins s σ H (fun zs H1 => zs = [] ∧ H1 = H) I ⟨rfl, rfl⟩) ?_
  rintro ws s2 ⟨zs, H2, I2, rz, rfl, rfl⟩
  cases rz
  refine ⟨I2.kIn, ?_⟩
  rw [hks]
  show wpAny _ _ (call (.ref C) []) _ _ _
  obtain ⟨bm, N, nm, qn, bs, hdct, sn, sub, ab, col, dd, k0, k1, k2, k3, k5, mN, hC, hN, hni, T⟩ := exc_obj I2.kIn q
  refine wpAny_call_exc_subT F T hC hN hni (fun h' a hm' => ?_) (by show 0 ≤ sizeLine; omega)
  have hn : H2 a = none := I2.hok.gone hm'.new
  obtain ⟨t, ht, _, _⟩ := hm'.there
  exact ⟨.ref a, upd H2 a (exo a C none), I2.laidN hm'.keeps hm'.new hn (exo_ok ht), rfl, h a hn⟩
/-- binds of a call by place as binds by names -/
theorem kb_all (h : ∀ us : List Value, us.length = ps.length → bindArgs fd ⟨us, []⟩ = pure (ps.zip us)) : KBinds X.K fd ps [] (fun us _ => us) (fun vs _ => vs) :=
  ⟨fun s us ws _ hl => by
    have e : ([] : List Str).zip ws = [] := rfl
    rw [e]
    exact .of_eq (h us hl), fun r _ => r⟩
end
/-! ### e.f and isinstance(e, c) -/
section
variable {X : Cx} {C a : Addr} {fs : List (Str × V)}
def tFld (K : PySem.W.Frag) (f : Str) (te : TE) : TE := fun σ H Q => te σ H fun x H1 => ∃ (a C : Addr) (fs : List (Str × V)) (v : V), x = .ref a ∧ AskC K C ∧ PySem.W.findIn K (.ref C) f = some none ∧ IsE C fs a H1 ∧ fs.lookup f = some v ∧ Q v H1
theorem pe_fldE {e : Expr} {te : TE} {pos : Pos} {f : Str} (he : PE X e te) (hb : attributeBase e f X.env (eval e X.env) = eval e X.env := by rfl) : PE X (.Attribute e f pos) (tFld X.K f te) := by
  constructor
  intro pins s σ H Q I h
  refine attr_of hb (thn (he.run pins s σ H _ I h) ?_)
  rintro u s1 ⟨x, H1, I1, rx, a, C, fs, v, rfl, T, hno, ⟨d, ea, ed⟩, l, q⟩
  obtain rfl : u = Value.ref a := rx
  cases d with
  | none =>
    have z : fs = [] := ed
    subst z
    cases l
  | some dx =>
    obtain ⟨t1, ho⟩ := exo_at I1.hok ea
    obtain ⟨mA, hns, hr⟩ := exd_at I1.hok ed
    obtain ⟨od, hod, hl⟩ := lookIn_ns hns
    obtain ⟨w, hw, rw'⟩ := RelO.some_of (v := v) (o := mA f) (by rw [← l]; exact hr f)
    have J : PySem.W.InstAt s1.heap a (eOb C t1 (some dx)) C (some od) := ⟨ho, rfl, rfl, hod⟩
    exact HandSPX.exc_get I1.kIn J T.ga T.gg T.exC (PySem.W.findObj_own T.hd hno rfl (by rw [hl, hw])) (handed_of rw') ⟨v, H1, I1.tok _, rw', q⟩
def rAskE (K : PySem.W.Frag) : List V → Hp → VK → Prop := fun xs H Q => ∃ (a C : Addr) (fs : List (Str × V)) (c : V) (cv : Value) (b : Bool), xs = [.ref a, c] ∧ (∀ u, RelV c u → u = cv) ∧ AskC K C ∧ IsE C fs a H ∧ PySem.W.kitOne K (.ref C) cv = some b ∧ Q (.bl b) H
theorem call_askE : CallR X (.builtin "isinstance") (rAskE X.K) := by
  intro pins s σ H xs us Q I r h
  obtain ⟨a, C, fs, c, cv, b, rfl, hcv, T, ⟨d, ea, ed⟩, e, q⟩ := h
  obtain ⟨t1, ho⟩ := exo_at I.hok ea
  obtain ⟨cd, hc, _⟩ := PySem.W.any_some T.hd
  have own : (PySem.W.clsIn X.K C).isSome = true := by
    rw [hc]
    rfl
  cases r with
  | cons rx rr =>
    cases rr with
    | cons rt rr =>
      cases rr
      cases rx
      have ec := hcv _ rt
      subst ec
      have fin : ∀ tk, EP X pins σ Q (.bool b) { s with toks := tk } := fun tk => ⟨.bl b, H, I.kept (t' := tk) fun _ _ z => z, rfl, q⟩
      cases d with
      | none =>
        have J : PySem.W.InstAt s.heap a (eOb C t1 none) C none := ⟨ho, rfl, rfl, trivial⟩
        exact PySem.W.kia_one (PySem.W.kitx_exc own T.ga T.gg T.exC T.ca T.cn T.ct T.cm) I.kIn J e (fun z => nomatch z) fin
      | some dx =>
        obtain ⟨mA, ⟨od, es, ep, hod, _⟩, _⟩ := exd_at I.hok ed
        have J : PySem.W.InstAt s.heap a (eOb C t1 (some dx)) C (some od) := ⟨ho, rfl, rfl, hod⟩
        exact PySem.W.kia_one (PySem.W.kitx_exc own T.ga T.gg T.exC T.ca T.cn T.ct T.cm) I.kIn J e (fun z => nomatch z) fin
end
end EvX

/-! list(enumerate(xs)), xs a list -/
namespace EvX
open PySem PySem.Spec PySem.Calls PyProof.Rows L2
/-- the object of an enumerate whose last pair, at a, still lives -/
abbrev enOut (a it : Addr) (f : Bool) (i : Int) (old : Value) : Obj := { cls := .type "enumerate", dict := none, data := .fields #[rawInt a, .bool f, .ref it, rawInt i, .none, old], slots := #[] }
def EnS (h : Heap) (e it S : Addr) (i : Nat) : Prop := (∃ old, IsEnum h e it (i : Int) old) ∨ ∃ (a : Addr) (f : Bool) (old : Value) (o : Obj), h.get? e = some (enOut a it f (i : Int) old) ∧ h.get? a = some o ∧ a ≠ e ∧ a ≠ it ∧ a ≠ S
theorem EnS.keep {h h' : Heap} {e it S : Addr} {i : Nat} (x : EnS h e it S i) (k : ∀ b o, b ≠ S → h.get? b = some o → h'.get? b = some o) (n : e ≠ S) : EnS h' e it S i := by
  rcases x with ⟨old, q⟩ | ⟨a, f, old, o, q, qa, h1, h2, h3⟩
  · exact .inl ⟨old, k _ _ n q⟩
  · exact .inr ⟨a, f, old, o, k _ _ n q, k _ _ h3 qa, h1, h2, h3⟩
section
variable {P : Program} {w : World} {A : Around} {E : Value → Shared → Prop} {s : Shared} {e it l S : Addr} {i : Nat} {items : Array Value} {x : Value} {Q : Option Value → Shared → Prop}
theorem en_out {a : Addr} {f : Bool} {old : Value} {o : Obj} (he : s.heap.get? e = some (enOut a it f (i : Int) old)) (ha : s.heap.get? a = some o) (ae : a ≠ e) (ai : a ≠ it) (hit : s.heap.IsListIter it l i) (hl : s.heap.IsList l items) (hx : items[i]? = some x) (hne : e ≠ it)
    (hQ : ∀ h' f', h'.get? e = some (enOut a it f' ((i : Int) + 1) old) → h'.IsListIter it l (i + 1) → h'.get? s.heap.objs.size = some { cls := .type "tuple", data := .seq #[.int i s.toks, x] } → h'.objs.size = s.heap.objs.size + 1 →
      (∀ b o, b ≠ e → b ≠ it → s.heap.get? b = some o → h'.get? b = some o) → Q (some (.ref s.heap.objs.size)) { s with heap := h', toks := s.toks + 1 }) :
    wpAny (model P w) A (pyNext (.ref e)) Q E s := by
  have ty : s.TypeIs (.ref e) "enumerate" := ⟨_, he, rfl⟩
  obtain ⟨hp, g, d, tk, os⟩ := s
  unfold pyNext
  refine wpAny_bind (wpAny_attempt (wpAny_callSpecial?_slot (name := Str.ofString "__next__") ty F.slot_enumerate_next (wpAny_call_entry F.slot_enumerate_next ty F.entry_enumerate_next ?_ (F.args_enumerate_next_1 _))))
  show wpAny _ _ (field (.ref e) 2 >>= _) _ _ _
  refine wpAny_bind (wpAny_field he rfl (x := .ref it) rfl ?_)
  refine wpAny_bind (wpAny_nextOf_list_item hit hl hx fun h1 hit1 sb1 => ?_)
  have sb1 : Heap.SameBut it hp h1 := sb1
  have e1 : h1.get? e = some (enOut a it f (i : Int) old) := (sb1.2 e hne).trans he
  show wpAny _ _ (field (.ref e) 3 >>= _) _ _ ⟨h1, g, d, tk, os⟩
  refine wpAny_bind (wpAny_field e1 rfl (x := rawInt i) rfl ?_)
  show wpAny _ _ (field (.ref e) 4 >>= _) _ _ ⟨h1, g, d, tk, os⟩
  refine wpAny_bind (wpAny_field e1 rfl (x := .none) rfl ?_)
  show wpAny _ _ (mkInt i >>= _) _ _ ⟨h1, g, d, tk, os⟩
  refine wpAny_bind (wpAny_mkInt ?_)
  show wpAny _ _ (setField (.ref e) 3 (rawInt ((i : Int) + 1)) >>= _) _ _ ⟨h1, g, d, tk + 1, os⟩
  refine wpAny_bind (wpAny_setField_rec e1 (by simp) fun h2 e2 sb2 => ?_)
  have sb2 : Heap.SameBut e h1 h2 := sb2
  have e2 : h2.get? e = some (enOut a it f ((i : Int) + 1) old) := e2
  show wpAny _ _ (setField (.ref e) 4 .none >>= _) _ _ ⟨h2, g, d, tk + 1, os⟩
  refine wpAny_bind (wpAny_setField_rec e2 (by simp) fun h3 e3 sb3 => ?_)
  have sb3 : Heap.SameBut e h2 h3 := sb3
  have e3 : h3.get? e = some (enOut a it f ((i : Int) + 1) old) := e3
  show wpAny _ _ (newTuple [.int i tk, x] >>= _) _ _ ⟨h3, g, d, tk + 1, os⟩
  refine wpAny_bind (wpAny_newTuple ?_)
  have sz : h3.objs.size = hp.objs.size := by rw [sb3.1, sb2.1, sb1.1]
  have k3 : ∀ b o, b ≠ e → b ≠ it → hp.get? b = some o → h3.get? b = some o := fun b o n1 n2 q => sb3.extBut b o n1 (sb2.extBut b o n1 (sb1.extBut b o n2 q))
  have it3 : h3.IsListIter it l (i + 1) := (hit1.extBut sb2.extBut (Ne.symm hne)).extBut sb3.extBut (Ne.symm hne)
  have el : e < hp.objs.size := Heap.lt_size he
  have e4 : (h3.push { cls := .type "tuple", data := .seq #[.int i tk, x] }).get? e = some (enOut a it f ((i : Int) + 1) old) := Heap.get?_push_of_some _ e3
  have t4 : (h3.push { cls := .type "tuple", data := .seq #[.int i tk, x] }).get? hp.objs.size = some { cls := .type "tuple", data := .seq #[.int i tk, x] } := by
    rw [← sz]
    exact Heap.get?_push_size _ rfl
  have a4 : (h3.push { cls := .type "tuple", data := .seq #[.int i tk, x] }).get? a = some o := Heap.get?_push_of_some _ (k3 a o ae ai ha)
  have z4 : (h3.push { cls := .type "tuple", data := .seq #[.int i tk, x] }).objs.size = hp.objs.size + 1 := by rw [Heap.size_push, sz]
  have it4 : (h3.push { cls := .type "tuple", data := .seq #[.int i tk, x] }).IsListIter it l (i + 1) := by
    obtain ⟨o, ho, r⟩ := it3
    exact ⟨o, Heap.get?_push_of_some _ ho, r⟩
  have k4 : ∀ b o, b ≠ e → b ≠ it → hp.get? b = some o → (h3.push { cls := .type "tuple", data := .seq #[.int i tk, x] }).get? b = some o := fun b o n1 n2 q => Heap.get?_push_of_some _ (k3 b o n1 n2 q)
  show wpAny _ _ (Builtin.SmallTypes.ownedTupleIsFree (.ref e) >>= _) _ _ ⟨h3.push { cls := .type "tuple", data := .seq #[.int i tk, x] }, g, d, tk + 1, os⟩
  rw [sz]
  generalize h3.push { cls := .type "tuple", data := .seq #[.int i tk, x] } = h4 at e4 t4 a4 z4 it4 k4 ⊢
  clear it3 k3 e3 sb3 e2 sb2 e1 sb1 hit1 sz
  refine wpAny_bind ?_
  unfold Builtin.SmallTypes.ownedTupleIsFree
  refine wpAny_bind (wpAny_field e4 rfl (x := rawInt a) rfl ?_)
  show wpAny _ _ (loadIfAlive ((a : Int).toNat) >>= _) _ _ _
  rw [Int.toNat_natCast]
  refine wpAny_bind (PySem.W.kdx_alive a4 ?_)
  simp only [Option.isNone_some, Bool.false_eq_true, if_false]
  refine wpAny_bind (wpAny_field e4 rfl (x := .bool f) rfl ?_)
  cases f with
  | true =>
    rw [if_neg (show ¬ ((Value.bool true != Value.bool true) = true) from Bool.false_ne_true)]
    refine wpAny_pure ?_
    simp only [Bool.false_eq_true, if_false]
    exact wpAny_pure (⟨_, rfl, wpAny_pure (hQ h4 true e4 it4 t4 z4 k4)⟩)
  | false =>
    rw [if_pos (show (Value.bool false != Value.bool true) = true from rfl)]
    refine wpAny_bind (wpAny_setField_rec e4 (by simp) fun h5 e5 sb5 => ?_)
    have sb5 : Heap.SameBut e h4 h5 := sb5
    refine wpAny_pure ?_
    simp only [Bool.false_eq_true, if_false]
    refine wpAny_pure (⟨_, rfl, wpAny_pure (hQ h5 true e5 (it4.extBut sb5.extBut (Ne.symm hne)) ?_ ?_ fun b o n1 n2 q => sb5.extBut b o n1 (k4 b o n1 n2 q))⟩)
    · exact sb5.extBut _ _ (Nat.ne_of_gt el) t4
    · rw [sb5.1, z4]
theorem en_item (he : EnS s.heap e it S i) (hS : S < s.heap.objs.size) (hit : s.heap.IsListIter it l i) (hl : s.heap.IsList l items) (hx : items[i]? = some x) (hne : e ≠ it)
    (hQ : ∀ h', EnS h' e it S (i + 1) → h'.IsListIter it l (i + 1) → h'.get? s.heap.objs.size = some { cls := .type "tuple", data := .seq #[.int i s.toks, x] } → h'.objs.size = s.heap.objs.size + 1 →
      (∀ b o, b ≠ e → b ≠ it → s.heap.get? b = some o → h'.get? b = some o) → Q (some (.ref s.heap.objs.size)) { s with heap := h', toks := s.toks + 1 }) :
    wpAny (model P w) A (pyNext (.ref e)) Q E s := by
  have up : ((i + 1 : Nat) : Int) = (i : Int) + 1 := by omega
  have il : it < s.heap.objs.size := by
    obtain ⟨o, q, _⟩ := hit
    exact Heap.lt_size q
  rcases he with ⟨old, q⟩ | ⟨a, f, old, o, q, qa, h1, h2, h3⟩
  · refine wpAny_pyNext_enum_item q hit hl hx hne fun h' o' it' t' z' k' => hQ h' (.inr ⟨s.heap.objs.size, false, x, _, ?_, t', Nat.ne_of_gt (Heap.lt_size q), Nat.ne_of_gt il, Nat.ne_of_gt hS⟩) it' t' z' k'
    rw [up]
    exact o'
  · refine en_out q qa h1 h2 hit hl hx hne fun h' f' o' it' t' z' k' => hQ h' (.inr ⟨a, f', old, o, ?_, k' a o h1 h2 qa, h1, h2, h3⟩) it' t' z' k'
    rw [up]
    exact o'
theorem en_end (hh : A.handled = none) (he : EnS s.heap e it S i) (hit : s.heap.IsListIter it l i) (hl : s.heap.IsList l items) (hx : items[i]? = none) (hQ : ∀ h', Heap.ExtBut it s.heap h' → Q none { s with heap := h' }) :
    wpAny (model P w) A (pyNext (.ref e)) Q E s := by
  rcases he with ⟨old, q⟩ | ⟨a, f, old, o, q, _⟩
  · exact wpAny_pyNext_enum_end hh q hit hl hx hQ
  · have ty : s.TypeIs (.ref e) "enumerate" := ⟨_, q, rfl⟩
    unfold pyNext
    refine wpAny_bind (wpAny_attempt (wpAny_callSpecial?_slot (name := Str.ofString "__next__") ty F.slot_enumerate_next (wpAny_call_entry F.slot_enumerate_next ty F.entry_enumerate_next ?_ (F.args_enumerate_next_1 _))))
    show wpAny _ _ (field (.ref e) 2 >>= _) _ _ _
    refine wpAny_bind (wpAny_field q rfl (x := .ref it) rfl ?_)
    refine wpAny_bind (wpAny_nextOf_list_end hh hit hl hx fun h' y he' hy => ?_)
    obtain ⟨oy, ho, hc⟩ := hy
    refine wpAny_bind (wpAny_isInstance (T := "StopIteration") (b := true) ⟨oy, ho, hc⟩ isSubtype_stop ?_)
    exact wpAny_pure (hQ _ he')
end
end EvX

namespace EvX
open PySem PySem.Spec PySem.Calls PyProof.Rows L2
theorem enum_no_len : typeLookup (.type "enumerate") "__len__" = pure none := by
  rw [typeLookup_type, builtinLookup_eq_fast]
  kernel_rfl
theorem enum_no_hint : typeLookup (.type "enumerate") "__length_hint__" = pure none := by
  rw [typeLookup_type, builtinLookup_eq_fast]
  kernel_rfl
/-- the pairs that were given out -/
structure Pairs (items : List Value) (lo : Addr) (h : Heap) (as : List Addr) : Prop where
  rise : as.Pairwise (· < ·)
  above : ∀ a ∈ as, lo < a
  pairs : ∀ (j : Nat) (a : Addr), as[j]? = some a → ∃ (t : Tok) (x : Value), items[j]? = some x ∧ h.get? a = some { cls := .type "tuple", data := .seq #[.int j t, x] }
theorem Pairs.past {items : List Value} {lo : Addr} {h : Heap} {as : List Addr} (g : Pairs items lo h as) {a : Addr} (ha : a ∈ as) : a < h.objs.size := by
  obtain ⟨j, hj⟩ := List.mem_iff_getElem?.mp ha
  obtain ⟨_, _, _, q⟩ := g.pairs j a hj
  exact Heap.lt_size q
section
variable {P : Program} {w : World} {A : Around} {s : Shared} {R : Result → Shared → Prop} {e it l S : Addr} {items : List Value} {res : Value}
theorem en_loop (hh : A.handled = none) (eS : e < S) (iS : it < S) (lS : l ≠ S) (ne : e ≠ it) (le : l ≠ e) (li : l ≠ it) (hn : items.length ≤ sizeLine) {h0 : Heap}
    (hR : ∀ h' tk acc c as, (∀ b o, b ≠ S → b ≠ e → b ≠ it → h0.get? b = some o → h'.get? b = some o) → h'.get? S = some { cls := .type "list", dict := none, data := .seq acc c, slots := #[] } → as.length = items.length → Pairs items S h' as →
      acc.toList = as.map Value.ref → R (.ok (.ret res)) { s with heap := h', toks := tk }) :
    ∀ (k i : Nat) (h : Heap) (tk c : Nat) (acc : Array Value) (as : List Addr), items.length - i = k → i ≤ items.length → EnS h e it S i → h.IsListIter it l i → h.IsList l items.toArray → (∀ b o, b ≠ S → b ≠ e → b ≠ it → h0.get? b = some o → h.get? b = some o) →
      h.get? S = some { cls := .type "list", dict := none, data := .seq acc c, slots := #[] } → acc.toList = as.map Value.ref → as.length = i → Pairs items S h as →
      codeAny (model P w) A (.builtin "list.extend.loop" ⟨[.ref S, .ref e, res], []⟩) R { s with heap := h, toks := tk } := by
  have nS : S ≠ e := Nat.ne_of_gt eS
  have nI : S ≠ it := Nat.ne_of_gt iS
  intro k
  induction k with
  | zero =>
    intro i h tk c acc as hk hi st sit sl keep hS hacc many G
    have full : i = items.length := by omega
    refine codeAny_builtin F.entry_extend_loop ?_
    rw [Around.under_plainId F.plain_extend_loop _]
    show wpAny _ A.in1 (pyNext (.ref e) >>= _) _ _ _
    refine wpAny_bind (en_end (s := { s with heap := h, toks := tk }) (A := A.in1) hh st sit sl (by simp; omega) fun h' he => ?_)
    refine wpAny_pure (hR h' tk acc c as (fun b o h1 h2 h3 q => he b o h3 (keep b o h1 h2 h3 q)) (he S _ nI hS) (by omega) ⟨G.rise, G.above, fun j a hj => ?_⟩ hacc)
    obtain ⟨t, x, q1, q2⟩ := G.pairs j a hj
    have up := G.above a (List.mem_of_getElem? hj)
    exact ⟨t, x, q1, he a _ (Nat.ne_of_gt (Nat.lt_trans iS up)) q2⟩
  | succ k ih =>
    intro i h tk c acc as hk hi st sit sl keep hS hacc many G
    have low : i < items.length := by omega
    obtain ⟨x, hx⟩ : ∃ x, items[i]? = some x := ⟨items[i], List.getElem?_eq_getElem low⟩
    have sz : acc.size = i := by rw [← Array.length_toList, hacc, List.length_map, many]
    have Sl : S < h.objs.size := Heap.lt_size hS
    refine codeAny_builtin F.entry_extend_loop ?_
    rw [Around.under_plainId F.plain_extend_loop _]
    show wpAny _ A.in1 (pyNext (.ref e) >>= _) _ _ _
    refine wpAny_bind (en_item (s := { s with heap := h, toks := tk }) (S := S) st Sl sit sl (x := x) (by simpa using hx) ne fun h' st' sit' ht hz kp => ?_)
    dsimp only at ht hz kp ⊢
    have hS' := kp S _ nS nI hS
    have sl' : h'.IsList l items.toArray := sl.at fun o q => kp l o le li q
    have up : ∀ b o, b ≠ S → h'.get? b = some o → (h'.update S (Obj.mapSeq (·.push (Value.ref h.objs.size)))).get? b = some o := fun b o hb q => (Heap.get?_update_other _ _ (Ne.symm hb)).trans q
    show wpAny _ A.in1 (updateSeq S (·.push (Value.ref h.objs.size)) >>= _) _ _ _
    refine wpAny_bind ?_
    refine wpAny_updateSeq hS' rfl (wpAny_pure ⟨plainId_quiet F.plain_extend_loop _, ?_⟩) (by rw [sz]; omega) (by show (acc.push (Value.ref h.objs.size)).size ≤ sizeLine + 1; rw [Array.size_push, sz]; omega)
    refine ih (i + 1) _ (tk + 1) _ (acc.push (Value.ref h.objs.size)) (as ++ [h.objs.size]) (by omega) low (st'.keep up (Ne.symm nS)) (sit'.at fun o q => up it o (Ne.symm nI) q) (sl'.at fun o q => up l o lS q)
      (fun b o h1 h2 h3 q => up b o h1 (kp b o h2 h3 (keep b o h1 h2 h3 q))) (Heap.get?_update_self _ hS' rfl) (by rw [Array.toList_push, hacc, List.map_append]; rfl) (by rw [List.length_append, many]; rfl) ⟨?_, ?_, ?_⟩
    · refine List.pairwise_append.mpr ⟨G.rise, List.pairwise_singleton _ _, fun a ha b hb => ?_⟩
      rw [List.mem_singleton.mp hb]
      exact G.past ha
    · intro a ha
      rcases List.mem_append.mp ha with ha | ha
      · exact G.above a ha
      · rw [List.mem_singleton.mp ha]
        exact Sl
    · intro j b hj
      by_cases h1 : j < as.length
      · rw [List.getElem?_append_left h1] at hj
        obtain ⟨t, y, q1, q2⟩ := G.pairs j b hj
        have ab := G.above b (List.mem_of_getElem? hj)
        exact ⟨t, y, q1, up b _ (Nat.ne_of_gt ab) (kp b _ (Nat.ne_of_gt (Nat.lt_trans eS ab)) (Nat.ne_of_gt (Nat.lt_trans iS ab)) q2)⟩
      · by_cases h2 : j = as.length
        · subst h2
          have hb : h.objs.size = b := by simpa using hj
          subst hb
          refine ⟨tk, x, by rw [many]; exact hx, ?_⟩
          rw [many]
          exact up _ _ (Nat.ne_of_gt Sl) ht
        · have gone : (as ++ [h.objs.size])[j]? = none := List.getElem?_eq_none (by rw [List.length_append, List.length_singleton]; omega)
          rw [gone] at hj
          cases hj
end
section
variable {P : Program} {w : World} {A : Around} {s : Shared} {R : Result → Shared → Prop} {e it l S : Addr} {items : List Value} {res : Value}
theorem en_extend (hh : A.handled = none) (eS : e < S) (iS : it < S) (lS : l ≠ S) (ne : e ≠ it) (le : l ≠ e) (li : l ≠ it) (hn : items.length ≤ sizeLine) (he : IsEnum s.heap e it 0 .none) (hit : s.heap.IsListIter it l 0) (hl : s.heap.IsList l items.toArray) (c0 : Nat) (hS : s.heap.get? S = some { cls := .type "list", data := .seq #[] c0 })
    (hR : ∀ h' tk acc c as, (∀ b o, b ≠ S → b ≠ e → b ≠ it → s.heap.get? b = some o → h'.get? b = some o) → h'.get? S = some { cls := .type "list", dict := none, data := .seq acc c, slots := #[] } → as.length = items.length → Pairs items S h' as →
      acc.toList = as.map Value.ref → R (.ok (.ret res)) { s with heap := h', toks := tk }) :
    wpAny (model P w) A.in1 (Builtin.List.listExtendWith (.ref S) (.ref e) res)
      (fun fin s' => match fin with | .done f => R (.ok f) s' | .again c' => c'.quiet = true ∧ codeAny (model P w) A c' R s') (fun e s' => R (.error e) s') s := by
  have ty : s.TypeIs (.ref e) "enumerate" := ⟨_, he, rfl⟩
  have nS : S ≠ e := Nat.ne_of_gt eS
  unfold Builtin.List.listExtendWith
  refine wpAny_bind (wpAny_typeOf ty ?_)
  have q1 : Builtin.List.listSameRef (.ref S) (.ref e) = false := by simp [Builtin.List.listSameRef, nS]
  have q2 : (Value.type "enumerate" == Value.type "list") = false := by decide
  have q3 : (Value.type "enumerate" == Value.type "tuple") = false := by decide
  simp only [q1, q2, q3, Bool.or_false, Bool.false_eq_true, if_false]
  refine wpAny_bind (wpAny_pyIter_enum he ?_)
  refine wpAny_bind (wpAny_holding ?_)
  unfold Builtin.List.listLengthHint
  refine wpAny_bind (wpAny_specialOf ty enum_no_len ?_)
  show wpAny _ A.in1 (specialOf (Value.ref e) (Str.ofString "__length_hint__") >>= _) _ _ _
  refine wpAny_bind (wpAny_specialOf ty enum_no_hint ?_)
  apply wpAny_pure
  show wpAny _ A.in1 (rule "list.extend.makes-room" >>= fun _ => Builtin.List.listTouch (.ref S) >>= fun _ => again (.builtin "list.extend.loop" ⟨[.ref S, .ref e, res], []⟩)) _ _ _
  refine wpAny_bind (wpAny_rule ?_)
  refine wpAny_bind ?_
  show wpAny _ A.in1 (updateSeq S (·.push .none) >>= fun _ => updateSeq S (·.pop)) _ _ _
  refine wpAny_bind (wpAny_updateSeq hS rfl ?_)
  have s2 := Heap.get?_update_self (Obj.mapSeq (·.push Value.none)) hS rfl
  refine wpAny_updateSeq (hz := by seq_fits) s2 rfl ?_
  have s3 := Heap.get?_update_self (Obj.mapSeq (·.pop)) s2 rfl
  have oth : ∀ b o, b ≠ S → s.heap.get? b = some o → ((s.heap.update S (Obj.mapSeq (·.push Value.none))).update S (Obj.mapSeq (·.pop))).get? b = some o := by
    intro b o hb q
    exact (Heap.get?_update_other _ _ (Ne.symm hb)).trans ((Heap.get?_update_other _ _ (Ne.symm hb)).trans q)
  refine wpAny_pure ⟨plainId_quiet F.plain_extend_loop _, ?_⟩
  exact en_loop (h0 := s.heap) hh eS iS lS ne le li hn hR items.length 0 _ s.toks _ #[] [] (Nat.sub_zero _) (Nat.zero_le _) (.inl ⟨.none, oth e _ (Ne.symm nS) he⟩) (hit.at fun o q => oth it o (Nat.ne_of_lt iS) q) (hl.at fun o q => oth l o lS q) (fun b o h1 _ _ q => oth b o h1 q) s3 rfl rfl
    ⟨List.Pairwise.nil, (fun _ ha => nomatch ha), fun j a hj => by simp at hj⟩
end
section
variable {P : Program} {w : World} {A : Around} {E : Value → Shared → Prop} {s : Shared} {e it l : Addr} {items : List Value} {Q : Value → Shared → Prop}
theorem en_list (hh : A.handled = none) (ne : e ≠ it) (le : l ≠ e) (li : l ≠ it) (hn : items.length ≤ sizeLine) (he : IsEnum s.heap e it 0 .none) (hit : s.heap.IsListIter it l 0) (hl : s.heap.IsList l items.toArray)
    (hQ : ∀ h' tk acc c as, (∀ b o, b ≠ e → b ≠ it → s.heap.get? b = some o → h'.get? b = some o) → h'.get? s.heap.objs.size = some { cls := .type "list", dict := none, data := .seq acc c, slots := #[] } → as.length = items.length → Pairs items s.heap.objs.size h' as →
      acc.toList = as.map Value.ref → Q (.ref s.heap.objs.size) { s with heap := h', toks := tk }) :
    wpAny (model P w) A (call (.type "list") [.ref e]) Q E s := by
  have el : e < s.heap.objs.size := Heap.lt_size he
  have il : it < s.heap.objs.size := by
    obtain ⟨o, q, _⟩ := hit
    exact Heap.lt_size q
  have ll : l < s.heap.objs.size := by
    obtain ⟨o, q, _⟩ := hl
    exact Heap.lt_size q
  refine callType_codes (Q₁ := fun obj s₁ => obj = .ref s.heap.objs.size ∧ s₁ = { s with heap := s.heap.push { cls := .type "list", data := .seq #[] } }) F.called_list (F.typeCall_list_1 _) F.entry_list_init (code_list_new _ ⟨rfl, rfl⟩) fun obj s₁ h₁ => ?_
  obtain ⟨rfl, rfl⟩ := h₁
  have hS : (s.heap.push { cls := .type "list", data := .seq #[] }).get? s.heap.objs.size = some { cls := .type "list", data := .seq #[] } := Heap.get?_push_size _ rfl
  refine ⟨⟨_, hS, rfl⟩, F.args_list_init_2 _ _, ?_⟩
  show wpAny _ _ (do let old ← Builtin.List.listItems (.ref s.heap.objs.size); Builtin.List.listUpdate (.ref s.heap.objs.size) (fun _ => #[]); letGo old.toList.reverse; Builtin.List.listExtendWith (.ref s.heap.objs.size) (.ref e) .none) _ _ _
  refine wpAny_bind ?_
  unfold Builtin.List.listItems
  refine wpAny_bind (wpAny_seqItems hS rfl (wpAny_pure ?_))
  show wpAny _ _ (updateSeq s.heap.objs.size (fun _ => #[]) >>= fun _ => letGo (#[] : Array Value).toList.reverse >>= fun _ => Builtin.List.listExtendWith (.ref s.heap.objs.size) (.ref e) .none) _ _ _
  refine wpAny_bind (wpAny_updateSeq hS rfl ?_)
  have s2 := Heap.get?_update_self (Obj.mapSeq (fun _ => (#[] : Array Value))) hS rfl
  have oth : ∀ b o, b ≠ s.heap.objs.size → s.heap.get? b = some o → ((s.heap.push { cls := .type "list", data := .seq #[] }).update s.heap.objs.size (Obj.mapSeq (fun _ => (#[] : Array Value)))).get? b = some o := by
    intro b o hb q
    exact (Heap.get?_update_other _ _ (Ne.symm hb)).trans (Heap.get?_push_of_some _ q)
  refine wpAny_bind (wpAny_letGo ?_)
  refine en_extend (A := A.in1) hh el il (Nat.ne_of_lt ll) ne le li hn (oth e _ (Nat.ne_of_lt el) he) (hit.at fun o q => oth it o (Nat.ne_of_lt il) q) (hl.at fun o q => oth l o (Nat.ne_of_lt ll) q) _ s2 ?_
  intro h' tk acc c as hk hS' hl' hG hacc
  exact ⟨rfl, hQ h' tk acc c as (fun b o h1 h2 q => hk b o (Nat.ne_of_lt (Heap.lt_size q)) h1 h2 (oth b o (Nat.ne_of_lt (Heap.lt_size q)) q)) hS' hl' hG hacc⟩
end
end EvX

namespace EvX
open PySem PySem.Spec PySem.Calls PyProof.Rows L2
/-- the list at S of the pairs at as -/
def layP (H : Hp) (S : Addr) (as : List Addr) (xs : List V) : Hp := fun b => if b = S then some (.lst (as.map V.ref)) else if b ∈ as then some (.tup [.int (as.idxOf b : Nat), xs.getD (as.idxOf b) .non]) else H b
section
variable {X : Cx} {pins : List (Addr × Obj)} {σ : L2.St} {H : Hp} {s : Shared} {h' : Heap} {S : Addr} {as : List Addr} {xs : List V} {items : List Value} {acc : Array Value} {c tk : Nat}
theorem vals_at {xs : List V} {us : List Value} (r : Vals xs us) : ∀ (j : Nat) (u : Value), us[j]? = some u → RelV (xs.getD j .non) u := by
  induction r with
  | nil =>
    intro j u h
    cases h
  | @cons x y xs us rx _ ih =>
    intro j u h
    cases j with
    | zero =>
      have e : y = u := by simpa using h
      subst e
      exact rx
    | succ j => exact ih j u (by simpa using h)
theorem pairs_laid (I : Inv X pins σ H s) (rv : Vals xs items) (hz : items.length ≤ sizeLine) (low : s.heap.objs.size ≤ S) (hk : ∀ b o, s.heap.get? b = some o → h'.get? b = some o) (hS : h'.get? S = some { cls := .type "list", dict := none, data := .seq acc c, slots := #[] })
    (hl : as.length = items.length) (G : Pairs items S h' as) (hacc : acc.toList = as.map Value.ref) :
    Ext H (layP H S as xs) ∧ (∀ (j : Nat) (t : Addr), as[j]? = some t → layP H S as xs t = some (.tup [.int (j : Nat), xs.getD j .non])) ∧ Inv X pins σ (layP H S as xs) { s with heap := h', toks := tk } := by
  have outS : S ∉ as := fun z => Nat.lt_irrefl _ (G.above _ z)
  have nd : as.Nodup := List.Pairwise.imp (fun {a b} (h : a < b) => Nat.ne_of_lt h) G.rise
  have newS : H S = none := I.hok.fresh low
  have newT : ∀ t ∈ as, H t = none := fun t ht => I.hok.fresh (Nat.le_trans low (Nat.le_of_lt (G.above t ht)))
  have atS : layP H S as xs S = some (.lst (as.map V.ref)) := if_pos rfl
  have atT : ∀ t ∈ as, layP H S as xs t = some (.tup [.int (as.idxOf t : Nat), xs.getD (as.idxOf t) .non]) := by
    intro t ht
    unfold layP
    have ne : t ≠ S := fun z => outS (by rw [← z]; exact ht)
    rw [if_neg ne, if_pos ht]
  have off : ∀ b, b ≠ S → b ∉ as → layP H S as xs b = H b := by
    intro b h1 h2
    unfold layP
    rw [if_neg h1, if_neg h2]
  have kp : Ext H (layP H S as xs) := by
    intro b u q
    rw [off b (ne_of_none q newS) fun z => by rw [newT b z] at q; cases q]
    exact q
  have past : ∀ b o, s.heap.get? b = some o → b ≠ S ∧ b ∉ as := by
    intro b o q
    have lt := Heap.lt_size q
    refine ⟨Nat.ne_of_lt (Nat.lt_of_lt_of_le lt low), fun z => ?_⟩
    exact absurd (Nat.lt_trans (Nat.lt_of_lt_of_le lt low) (G.above b z)) (Nat.lt_irrefl _)
  refine ⟨kp, fun j t hj => ?_, ?_⟩
  · have ht : t ∈ as := List.mem_of_getElem? hj
    have jl : j < as.length := by
      rcases Nat.lt_or_ge j as.length with z | z
      · exact z
      · rw [List.getElem?_eq_none z] at hj
        cases hj
    have e : as.idxOf t = j := by
      have il : as.idxOf t < as.length := List.idxOf_lt_length_of_mem ht
      refine (List.getElem?_inj il nd).mp ?_
      rw [List.getElem?_eq_getElem il, List.getElem_idxOf il, hj]
    rw [atT t ht, e]
  · refine I.call' (ch := []) rfl ⟨fun b o q _ _ _ => hk b o q, fun b o q _ _ _ => ⟨o.slots, hk b o q⟩, fun b o q n _ => ?_, fun b o q _ => ⟨o, hk b o q⟩, fun b xs q => kp b _ q, fun b o u q => kp b _ q, fun b ps q => ⟨#[], by rw [kp b _ q]; simp⟩⟩ (fun b u q => ?_) I.bare fun b z => by simp at z
    · obtain ⟨z1, z2⟩ := past b o q
      rw [off b z1 z2]
      exact n
    · by_cases hb : b ∈ as
      · rw [atT b hb] at q
        cases q
        have il : as.idxOf b < as.length := List.idxOf_lt_length_of_mem hb
        have hj : as[as.idxOf b]? = some b := by rw [List.getElem?_eq_getElem il, List.getElem_idxOf il]
        obtain ⟨t, x, f1, f2⟩ := G.pairs _ b hj
        refine ⟨by show 2 ≤ sizeLine; decide, [.int (as.idxOf b : Nat) t, x], .cons ⟨t, rfl⟩ (.cons (vals_at rv _ _ f1) .nil), ?_⟩
        exact ⟨_, f2, rfl, _, rfl⟩
      · by_cases hb2 : b = S
        · subst hb2
          rw [atS] at q
          cases q
          refine ⟨by rw [List.length_map, hl]; exact hz, acc.toList, c, ?_, ?_⟩
          · rw [hacc]
            exact LiI.vals_refs as
          · rw [Array.toArray_toList]
            exact hS
        · rw [off b hb2 hb] at q
          exact (I.hok b u q).stay (fun d v _ y => hk d v y) (fun d y => kp d _ y) fun d ys y => kp d _ y
end
def tLsEnum (K : PySem.W.Frag) (ta : TA) : TE := fun σ H Q => ta σ H fun vs H1 => ∃ l xs, vs = [.ref l] ∧ SqL K H1 l xs ∧
  ∀ (p : Addr) (ts : List Addr) (H' : Hp), Ext H1 H' → H' p = some (.lst (ts.map V.ref)) → ts.length = xs.length → (∀ (j : Nat) (t : Addr), ts[j]? = some t → H' t = some (.tup [.int (j : Nat), xs.getD j .non])) → Q (.ref p) H'
section
variable {X : Cx} {e : Expr} {ta : TA} {p p2 pos pos2 : Pos}
theorem pe_lsEnum (hc : X.calm = true) (ha : PA X [e] ta) (hg : Gl X "list") (hm : X.mg "list" = none) (hv : bootBuiltins "list" = some (.type "list")) (hg2 : Gl X "enumerate") (hm2 : X.mg "enumerate" = none)
    (hs : starEach [.Call (.Name "enumerate" p2) [e] [] pos2] X.env = (false, eval (.Call (.Name "enumerate" p2) [e] [] pos2) X.env) :: starEach [] X.env := by rfl) (hs2 : starEach [e] X.env = [(false, eval e X.env)] := by rfl) :
    PE X (.Call (.Name "list" p) [.Call (.Name "enumerate" p2) [e] [] pos2] [] pos) (tLsEnum X.K ta) := by
  constructor
  intro pins s σ H Q I h
  refine wpAny_Call_Name_kw (ld_blt I hg hm hv ?_)
  refine PyProof.Rows.callWith_type1 ?_ hs rfl
  rw [hs]
  show wpAny _ _ (spliced ((false, eval (.Call (.Name "enumerate" p2) [e] [] pos2) X.env) :: backTo pos (starEach [] X.env))) _ _ s
  refine Calls.spliced_cons ?_
  refine wpAny_Call_Name_kw (ld_blt I hg2 hm2 boot_enumerate (PyProof.Rows.callWith_type1 (thn (ha.run pos2 pins s σ H _ I h) ?_) hs2 rfl))
  rintro us s1 ⟨vs, H1, I1, r1, l, xs, rfl, hq, q⟩
  cases r1 with
  | cons r rr =>
    cases rr
    cases r
    obtain ⟨its, rv, p', hz⟩ := I1.list hq
    have ll : l < s1.heap.objs.size := by
      obtain ⟨o, z, _⟩ := p'.isList
      exact Heap.lt_size z
    refine call_enumerate_list p'.isList fun h1 he hit hsz hk => ?_
    refine Calls.spliced_nil ?_
    have li : h1.IsList l its.toArray := p'.isList.at fun o z => hk l o z
    have lk : its.length ≤ sizeLine := by
      rw [← rv.length]
      exact hz
    refine en_list (s := { s1 with heap := h1 }) (I1.ok.hd hc) (Nat.succ_ne_self _) (Nat.ne_of_lt (Nat.lt_succ_of_lt ll)) (Nat.ne_of_lt ll) lk he hit li ?_
    intro h2 tk acc c as hk2 hS hl hG hacc
    have sz2 : h1.objs.size = s1.heap.objs.size + 2 := hsz
    obtain ⟨k1, k2, J⟩ := pairs_laid (xs := xs) (tk := tk) I1 rv lk (S := h1.objs.size) (by omega) (fun b o z => hk2 b o (Nat.ne_of_lt (Nat.lt_succ_of_lt (Heap.lt_size z))) (Nat.ne_of_lt (Heap.lt_size z)) (hk b o z)) hS hl hG hacc
    exact ⟨.ref h1.objs.size, _, J, rfl, q h1.objs.size as _ k1 (if_pos rfl) (by rw [hl]; exact rv.length.symm) k2⟩
end
end EvX

/-! repr of data with dicts -/
namespace EvX
open PySem PySem.Spec PySem.Calls PyProof.Rows L2
section
variable {X : Cx}
def tLstX (t : TA) : TE := fun σ H Q => t σ H fun xs H1 => xs.length ≤ sizeLine ∧ ∀ p, H1 p = none → p ≠ sysModules → Q (.ref p) (upd H1 p (.lst xs))
theorem pe_lstX {es : List Expr} {t : TA} {pos : Pos} (h : PA X es t) : PE X (.List es pos) (tLstX t) := by
  constructor
  intro pins s σ H Q I hq
  refine wpAny_List_spliced (thn (h.run pos pins s σ H _ I hq) ?_)
  rintro us s1 ⟨xs, H1, I1, r, z, q⟩
  refine ⟨by rw [← r.length]; exact z, ?_⟩
  have J := I1.laid (t' := s1.toks) (a := s1.heap.objs.size) (o := .lst xs) (fun b u e => Heap.get?_push_of_some { cls := .type "list", data := .seq us.toArray } e) (Nat.le_refl _) ⟨z, us, 0, r, Heap.get?_push_size _ rfl⟩
  exact ⟨.ref s1.heap.objs.size, _, J, rfl, q _ (I1.hok.fresh (Nat.le_refl _)) (Nat.ne_of_gt I1.big)⟩
/-- a list of one thing, times none or one -/
def rRepX : R2 := fun x y H Q => ∃ l k v, x = .ref l ∧ y = .int k ∧ H l = some (.lst [v]) ∧ 0 ≤ k ∧ k ≤ 1 ∧ ∀ p, H p = none → p ≠ sysModules → Q (.ref p) (upd H p (.lst (List.replicate k.toNat v)))
theorem op_repX : OpR X (binaryOp .Mult) rRepX := by
  intro pins s σ H x y v u Q I rx ry h
  obtain ⟨l, k, c, rfl, rfl, hH, k0, k1, q⟩ := h
  cases rx
  obtain ⟨t, rfl⟩ := ry
  obtain ⟨z, its, n, r, hl, e⟩ := I.lstM hH
  obtain ⟨i, rfl, ri⟩ : ∃ i, its = [i] ∧ RelV c i := by
    cases r with
    | cons r1 r2 =>
      cases r2
      exact ⟨_, rfl, r1⟩
  have low : k.toNat ≤ 1 := by omega
  have f1 : ¬ [i].toArray.size * k.toNat > (2 ^ 63 - 1) / 8 := by
    show ¬ 1 * k.toNat > (2 ^ 63 - 1) / 8
    omega
  have f2 : ¬ (!Builtin.List.listFitsIndex k) = true := by
    rw [fitsIndex_both (by omega) (by omega)]
    decide
  have f3 : ¬ Builtin.List.listTooLong ([i].toArray.size * k.toNat) = true := by
    rw [notLongL (show [i].toArray.size * k.toNat ≤ sizeLine from Nat.le_trans (show 1 * k.toNat ≤ 1 by omega) (by decide))]
    decide
  have made : List.foldl (fun x1 x2 => x1 ++ x2) #[] (List.replicate (if [i].toArray.isEmpty = true then 0 else k.toNat) [i].toArray) = (List.replicate k.toNat i).toArray := by
    rcases (show k.toNat = 0 ∨ k.toNat = 1 by omega) with z | z <;> rw [z] <;> rfl
  have rr : Vals (List.replicate k.toNat c) (List.replicate k.toNat i) := by
    rcases (show k.toNat = 0 ∨ k.toNat = 1 by omega) with z | z <;> rw [z]
    · exact .nil
    · exact .cons ri .nil
  refine wpAny_binaryOp_repeat_ref (T := "list") (U := "int") (by decide) ⟨_, e, rfl⟩ (fun s' => typeIs_int s' k t) noFill_list_mul F.fills_int_mul F.slot_int_rmul repeat_list F.slot_int_index.lookup ?_
  refine call_meets F.slot_int_rmul (typeIs_int s k t) F.entry_int_rmul (F.args_int_rmul_2 _ _) (int___rmul___int_list k t l [i].toArray n) ⟨e, rfl, ⟨_, e, rfl⟩, ?_⟩
  refine call_meets F.slot_list_mul ⟨_, e, rfl⟩ F.entry_list_mul (F.args_list_mul_2 _ _) (AutoListH.list___mul___list_int_3 l [i].toArray n k t f2 f1 f3) ⟨e, ?_⟩
  rw [made]
  exact ⟨.ref _, _, I.lnew (t' := s.toks) rr (by rw [List.length_replicate]; exact Nat.le_trans low (by decide)), rfl, q _ I.fresh (Nat.ne_of_gt I.big)⟩
end
/-- the data that a value tells, dicts among them -/
def kD : Key → PyData
  | .inl i => .int i
  | .inr x => .str x
mutual
inductive Dx (H : Hp) : V → PyData → Prop
  | non : Dx H .non .none
  | bl (b : Bool) : Dx H (.bl b) (.bool b)
  | int (i : Int) : Dx H (.int i) (.int i)
  | str (x : Str) : Dx H (.str x) (.str x)
  | lst {a : Addr} {xs : List V} {ds : List PyData} : H a = some (.lst xs) → a ≠ sysModules → DxAll H xs ds → Dx H (.ref a) (.list ds)
  | tup {a : Addr} {xs : List V} {ds : List PyData} : H a = some (.tup xs) → DxAll H xs ds → Dx H (.ref a) (.tuple ds)
  | dct {a : Addr} {kvs : List (Key × V)} {ds : List (PyData × PyData)} : H a = some (.dK kvs) → ds.map (·.1) = kvs.map (fun p => kD p.1) → DxAll H (kvs.map (·.2)) (ds.map (·.2)) → Dx H (.ref a) (.dict ds)
inductive DxAll (H : Hp) : List V → List PyData → Prop
  | nil : DxAll H [] []
  | cons {v : V} {vs : List V} {d : PyData} {ds : List PyData} : Dx H v d → DxAll H vs ds → DxAll H (v :: vs) (d :: ds)
end
mutual
theorem Dx.ext {H H' : Hp} (e : Ext H H') : ∀ {v : V} {d : PyData}, Dx H v d → Dx H' v d
  | _, _, .non => .non
  | _, _, .bl b => .bl b
  | _, _, .int i => .int i
  | _, _, .str x => .str x
  | _, _, .lst h n a => .lst (e _ _ h) n (DxAll.ext e a)
  | _, _, .tup h a => .tup (e _ _ h) (DxAll.ext e a)
  | _, _, .dct h k a => .dct (e _ _ h) k (DxAll.ext e a)
theorem DxAll.ext {H H' : Hp} (e : Ext H H') : ∀ {vs : List V} {ds : List PyData}, DxAll H vs ds → DxAll H' vs ds
  | _, _, .nil => .nil
  | _, _, .cons h a => .cons (Dx.ext e h) (DxAll.ext e a)
end
theorem readsKeys {P : Program} {w : World} {h : Heap} {es : List DictEntry} {vs : List (Key × Value)} (p : PySem.Pairs (mixKind P w) es vs) : ReadsAll h (es.map (·.key)) (vs.map fun q => kD q.1) [] ∧ es.map (·.val) = vs.map (·.2) := by
  induction p with
  | nil => exact ⟨.nil, rfl⟩
  | @cons e kv es kvs hk hv _ ih =>
    obtain ⟨h1, h2⟩ := ih
    refine ⟨?_, by rw [List.map_cons, List.map_cons, h2, hv]⟩
    have one : Reads h e.key (kD kv.1) [] := by
      rcases keyIs_shape (show keyIs kv.1 e.key = true from hk) with ⟨i, t, z1, z2⟩ | ⟨x, t, z1, z2⟩
      · rw [z1, z2]
        exact .int i t
      · rw [z1, z2]
        exact .str x t
    exact ReadsAll.cons one h1
section
variable {X : Cx} {pins : List (Addr × Obj)} {σ : L2.St} {H : Hp} {s : Shared}
theorem kv_vals : ∀ {kvs : List (Key × V)} {vs : List (Key × Value)}, KV kvs vs → Vals (kvs.map (·.2)) (vs.map (·.2)) ∧ (kvs.map fun p => kD p.1) = vs.map fun q => kD q.1
  | [], [], .nil => ⟨.nil, rfl⟩
  | p :: kvs, q :: vs, .cons h t => by
    obtain ⟨h1, h2⟩ := kv_vals t
    exact ⟨.cons h.2 h1, by rw [List.map_cons, List.map_cons, h2, h.1]⟩
mutual
theorem Dx.reads (I : Inv X pins σ H s) : ∀ (d : PyData) (v : V) (u : Value), Dx H v d → RelV v u → ∃ as, Reads s.heap u d as ∧ sysModules ∉ as
  | .none, _, _, h, r => by
    cases h
    cases r
    exact ⟨[], Reads.none, by simp⟩
  | .bool b, _, _, h, r => by
    cases h
    cases r
    exact ⟨[], Reads.bool b, by simp⟩
  | .int i, _, _, h, r => by
    cases h
    obtain ⟨t, rfl⟩ := r
    exact ⟨[], Reads.int i t, by simp⟩
  | .str x, _, _, h, r => by
    cases h
    obtain ⟨t, rfl⟩ := r
    exact ⟨[], Reads.str x t, by simp⟩
  | .list ds, _, _, h, r => by
    cases h with
    | lst hs n ha =>
      cases r
      obtain ⟨z, its, m, rv, _, e⟩ := I.lstM hs
      obtain ⟨as, hr, o⟩ := Dx.readsAll I ds _ its ha rv
      exact ⟨_, Reads.list e rfl rfl hr, by simp [o, Ne.symm n]⟩
  | .tuple ds, _, _, h, r => by
    cases h with
    | tup hs ha =>
      cases r
      obtain ⟨z, its, rv, ⟨o, ho, hc, m, hd⟩⟩ := (show ObjOk X.prog X.w H s.heap _ (.tup _) from I.hok _ _ hs)
      obtain ⟨as, hr, q⟩ := Dx.readsAll I ds _ its ha rv
      exact ⟨_, Reads.tuple ho hc hd hr, q⟩
  | .dict ds, _, _, h, r => by
    cases h with
    | dct hs hk ha =>
      cases r
      obtain ⟨z, hsys, vs, kv, ⟨o, es, ep, ho, hx, hd, _, hp, _⟩⟩ := (show ObjOk X.prog X.w H s.heap _ (.dK _) from I.hok _ _ hs)
      obtain ⟨v1, v2⟩ := kv_vals kv
      obtain ⟨k1, k2⟩ := readsKeys (h := s.heap) hp
      obtain ⟨as, hr, q⟩ := Dx.readsAllP I ds _ _ ha v1
      have ks : ReadsAll s.heap (es.toList.map (·.key)) (ds.map (·.1)) [] := by
        rw [hk, v2]
        exact k1
      have vals : ReadsAll s.heap (es.toList.map (·.val)) (ds.map (·.2)) as := by
        rw [k2]
        exact hr
      refine ⟨_, Reads.dict ho hx.1 hd ks vals, ?_⟩
      have ne := beq_eq_false_iff_ne.mp hsys
      simp [q, Ne.symm ne]
theorem Dx.readsAll (I : Inv X pins σ H s) : ∀ (ds : List PyData) (vs : List V) (us : List Value), DxAll H vs ds → Vals vs us → ∃ as, ReadsAll s.heap us ds as ∧ sysModules ∉ as
  | [], _, _, h, r => by
    cases h
    cases r
    exact ⟨_, ReadsAll.nil, by simp⟩
  | d :: ds, _, _, h, r => by
    cases h with
    | cons h1 h2 =>
      cases r with
      | cons r1 r2 =>
        obtain ⟨as, q1, o1⟩ := Dx.reads I d _ _ h1 r1
        obtain ⟨bs, q2, o2⟩ := Dx.readsAll I ds _ _ h2 r2
        exact ⟨_, ReadsAll.cons q1 q2, by simp [o1, o2]⟩
theorem Dx.readsAllP (I : Inv X pins σ H s) : ∀ (ds : List (PyData × PyData)) (vs : List V) (us : List Value), DxAll H vs (ds.map (·.2)) → Vals vs us → ∃ as, ReadsAll s.heap us (ds.map (·.2)) as ∧ sysModules ∉ as
  | [], _, _, h, r => by
    cases h
    cases r
    exact ⟨_, ReadsAll.nil, by simp⟩
  | d :: ds, _, _, h, r => by
    cases h with
    | cons h1 h2 =>
      cases r with
      | cons r1 r2 =>
        obtain ⟨as, q1, o1⟩ := Dx.reads I d.2 _ _ h1 r1
        obtain ⟨bs, q2, o2⟩ := Dx.readsAllP I ds _ _ h2 r2
        exact ⟨_, ReadsAll.cons q1 q2, by simp [o1, o2]⟩
end
def rReprX : List V → Hp → VK → Prop := fun xs H Q => ∃ (a : Addr) (d : PyData), xs = [.ref a] ∧ Dx H (.ref a) d ∧ d.showable = true ∧ d.depth ≤ 40 ∧ d.shown.length ≤ sizeLine ∧ Q (.str d.shown) H
theorem call_reprX (g : X.A.guards = some []) (hu : X.A.units + 64 < cLine) : CallR X (.builtin "repr") rReprX := by
  intro pins s σ H xs us Q I r h
  obtain ⟨a, d, rfl, hd, sh, dep, sz, q⟩ := h
  cases r with
  | cons r1 r2 =>
    cases r2
    obtain ⟨as, rd, out⟩ := Dx.reads I d _ _ hd r1
    cases r1
    exact repr_of_reads' rd sh (fun _ => out) g (by omega) (fun _ _ e => e) (fun h' u tk k => ⟨.str d.shown, H, I.kept k, ⟨_, rfl⟩, q⟩) sz
end
end EvX

/-! The errors of this program: their classes by numbers. -/
namespace EvX
open PySem PySem.Spec PySem.Calls PyProof.Rows L2 EvG
def nm (i : Nat) : Str := (["InvalidVector", "InvalidBook", "InvalidPart", "InvalidNet", "InvalidCourse", "InvalidWeighting", "InvalidDeed", "InvalidItem", "InvalidCosts", "InvalidCount", "NotComparable", "InvalidText", "UnknownCommand", "UnknownName", "NoItem", "TooMany", "NothingToUndo", "NetError", "MissingError"] : List Str).getD i ""
/-- the fields, in the order of the parameters -/
def fld (i : Nat) : List Str := ([[], ["reason"], ["reason"], ["reason", "name"], ["reason"], ["reason"], ["reason"], ["index"], ["name"], ["name"], ["reason"], ["line", "word"], ["word"], ["name"], ["number"], ["limit"], ["count"], [], []] : List (List Str)).getD i []
def FF (ns : List Str) (ys : List V) : List (Str × V) := (ns.zip ys).reverse
def tVE : List Value := [.type "ValueError", .type "Exception", .type "BaseException", .type "object"]
def tLE : List Value := [.type "LookupError", .type "Exception", .type "BaseException", .type "object"]
def tOE : List Value := [.type "OverflowError", .type "ArithmeticError", .type "Exception", .type "BaseException", .type "object"]
def tIE : List Value := [.type "IndexError", .type "LookupError", .type "Exception", .type "BaseException", .type "object"]
/-- what a class stands over -/
def over (c : Nat → Addr) (i : Nat) : List Value := if i < 13 then .ref (c 17) :: tVE else if i < 15 then .ref (c 18) :: tLE else if i = 15 then tOE else if i = 16 then tIE else if i = 17 then tVE else tLE
def gK {α : Type} (n : Nat) (us ws : List α) : List α := if us.length = 1 ∧ ws.length = n then us ++ ws.reverse else []
structure Lay (P : Program) (w : World) (K : PySem.W.Frag) (mg : Str → Option Value) (base : Heap) (c : Nat → Addr) : Prop where
  inj : ∀ i j, i < 19 → j < 19 → c i = c j → i = j
  glob : ∀ i, i < 19 → mg (nm i) = some (.ref (c i))
  ask : ∀ i, i < 19 → AskC K (c i)
  cls : ∀ i, i < 19 → ∃ cd, PySem.W.clsIn K (c i) = some cd ∧ cd.mro = .ref (c i) :: over c i
  ty : ∀ i, i < 19 → PySem.W.typeIn K (.ref (c i)) = some (.type "type")
  no : ∀ i, i < 19 → ∀ f ∈ fld i, PySem.W.findIn K (.ref (c i)) f = some none
  bare : ∀ i, i = 0 ∨ i = 17 ∨ i = 18 → ∃ B newId initId bmB, ExcBaseFacts B newId initId bmB ∧ PySem.W.excIn K (c i) bmB newId = true
  init : ∀ i, 1 ≤ i → i ≤ 16 → ∃ (fI : Addr) (fd : FuncData) (B newId initId : String) (bmB : List Value), ErrC K (c i) B newId initId bmB ∧ PySem.W.findIn K (.ref (c i)) "__init__" = some (some (.ref fI)) ∧ PySem.W.typeIn K (.ref fI) = some (.type "function") ∧
    FnOk P w K mg base CX0 1 fI fd ("self" :: fld i) (spI (c i) (fld i).length (FF (fld i))) ∧ KBinds K fd ("self" :: fld i) [] (fun us _ => us) (fun vs _ => vs) ∧ KBinds K fd ("self" :: fld i) (fld i).reverse (gK (fld i).length) (gK (fld i).length)
/-- a new error of the class at C with these fields -/
def tNewE (C : Addr) (ns : List Str) (rev : Bool) (ta : TA) : TE := fun σ H Q => ta σ H fun vs H1 => vs.length = ns.length ∧ ∀ a H2, H1 a = none → Ext H1 H2 → IsE C (FF ns (if rev then vs.reverse else vs)) a H2 → Q (.ref a) H2
theorem fld_len (i : Nat) : (fld i).length ≤ 2 := by
  by_cases h : i < 19
  · have : ∀ j < 19, (fld j).length ≤ 2 := by decide
    exact this i h
  · have e : fld i = [] := by
      unfold fld
      rw [List.getD_eq_getElem?_getD, List.getElem?_eq_none (by show 19 ≤ i; omega)]
      rfl
    rw [e]
    decide
section
variable {X : Cx} {c : Nat → Addr} {x : Str} {p pos : Pos} {e : Expr} {es : List Expr} {kws : List Keyword} {ta tk : TA} {ks : List Str}
theorem laid_new {C : Addr} {n : Nat} {F : List V → List (Str × V)} {H2 : Hp} {Q : VK} {us ys : List V} {a : Addr} (e : us = .ref a :: ys) (hl : ys.length = n)
    (q : ∀ a H3, H2 a = none → Ext H2 H3 → IsE C (F ys) a H3 → Q (.ref a) H3) (ha : H2 a = none) : spI C n F us (upd H2 a (exo a C none)) (fun v H3 => v = .non ∧ Q (.ref a) H3) (fun _ _ _ => False) := by
  refine ⟨a, ys, e, hl, upd_same, fun H' L => ?_⟩
  obtain ⟨h1, h2⟩ := L.isE ha
  exact ⟨rfl, q a H' ha h2 h1⟩
theorem pe_new (L : Lay X.prog X.w X.K X.mg X.base c) (i : Nat) (h1 : 1 ≤ i) (h2 : i ≤ 16) (hx : x = nm i) (hr : Room 2 X.A) (hg : Gl X x) (ha : PA X (e :: es) ta)
    (hdb : (x == ("__debug__" : Str)) = false := by decide) (he : starEach (e :: es) X.env = (false, eval e X.env) :: starEach es X.env := by rfl) (hpl : (backTo pos (starEach es X.env)).any (·.1) = false := by rfl) :
    PE X (.Call (.Name x p) (e :: es) [] pos) (tNewE (c i) (fld i) false ta) := by
  obtain ⟨fI, fd, B, newId, initId, bmB, T, iC, tI, F, kb, _⟩ := L.init i h1 h2
  have hm : X.mg x = some (.ref (c i)) := by
    rw [hx]
    exact L.glob i (by omega)
  constructor
  intro pins s σ H Q I h
  apply wpAny_Call_Name_kw
  refine ld_glob I hg hm ?_ hdb
  refine PySem.W.callWith_K (h₀ := X.base) I.ok.mod.kin T.ask.keep (thn (ha.run pos pins s σ H _ I h) ?_) he hpl
  rintro us s1 ⟨vs, H1, I1, r, hl, q⟩
  have fl := fld_len i
  exact ⟨I1.kIn, run_err (ws := []) (zs := []) T iC tI F hr kb pass0 I1 r .nil (by omega) fun a ha => laid_new rfl hl q ha⟩
theorem pe_newK (L : Lay X.prog X.w X.K X.mg X.base c) (i : Nat) (h1 : 1 ≤ i) (h2 : i ≤ 16) (hx : x = nm i) (hr : Room 2 X.A) (hg : Gl X x) (hkw : PK X kws tk)
    (hall : (backToKw pos (keywordEach kws X.env)).all (·.1.isSome) = true := by rfl) (hks : (backToKw pos (keywordEach kws X.env)).filterMap (·.1) = (fld i).reverse := by rfl)
    (hdb : (x == ("__debug__" : Str)) = false := by decide) (hpl : ((backTo pos (starEach [] X.env)).any (·.1) || (backToKw pos (keywordEach kws X.env)).any (·.1.isNone)) = false := by rfl) :
    PE X (.Call (.Name x p) [] kws pos) (tNewE (c i) (fld i) true tk) := by
  obtain ⟨fI, fd, B, newId, initId, bmB, T, iC, tI, F, _, kb⟩ := L.init i h1 h2
  have hm : X.mg x = some (.ref (c i)) := by
    rw [hx]
    exact L.glob i (by omega)
  constructor
  intro pins s σ H Q I h
  apply wpAny_Call_Name_kw
  refine ld_glob I hg hm ?_ hdb
  refine PySem.W.callWith_KW0 (h₀ := X.base) I.ok.mod.kin T.ask.keep hall ?_ hpl
  refine thn (hkw.run pos pins s σ H _ I h) ?_
  rintro ws s2 ⟨zs, H2, I2, rz, hl, q⟩
  refine ⟨I2.kIn, ?_⟩
  rw [hks]
  refine run_err (us := []) (vs := []) T iC tI F hr kb pass0 I2 .nil rz (Nat.zero_le _) fun a ha => laid_new (ys := zs.reverse) ?_ ?_ q ha
  · unfold gK
    rw [if_pos ⟨rfl, hl⟩]
    rfl
  · rw [List.length_reverse]
    exact hl
theorem pe_newB (L : Lay X.prog X.w X.K X.mg X.base c) (i : Nat) (hi : i = 0 ∨ i = 17 ∨ i = 18) (hx : x = nm i) (hg : Gl X x)
    (hall : (backToKw pos (keywordEach [] X.env)).all (·.1.isSome) = true := by rfl) (hks : (backToKw pos (keywordEach [] X.env)).filterMap (·.1) = [] := by rfl)
    (hdb : (x == ("__debug__" : Str)) = false := by decide) (hpl : ((backTo pos (starEach [] X.env)).any (·.1) || (backToKw pos (keywordEach [] X.env)).any (·.1.isNone)) = false := by rfl) :
    PE X (.Call (.Name x p) [] [] pos) (tNewE (c i) (fld i) false tNil) := by
  obtain ⟨B, newId, initId, bmB, F, q0⟩ := L.bare i hi
  have lt : i < 19 := by omega
  have hm : X.mg x = some (.ref (c i)) := by
    rw [hx]
    exact L.glob i lt
  constructor
  intro pins s σ H Q I h
  refine (pe_mk0 (X := X) F q0 (L.ask i lt).keep hg hm hall hks hdb hpl).run pins s σ H Q I ?_
  intro a ha
  have em : fld i = [] := by rcases hi with rfl | rfl | rfl <;> rfl
  rw [em] at h
  obtain ⟨_, q⟩ := (show ([] : List V).length = ([] : List Str).length ∧ _ from h)
  exact q a _ ha (ext_new ha) ⟨none, upd_same, rfl⟩
/-- which class an error is of -/
theorem kit_own {P : Program} {w : World} {K : PySem.W.Frag} {mg : Str → Option Value} {base : Heap} (L : Lay P w K mg base c) {i j : Nat} (hi : i < 19) (hj : j < 17) : PySem.W.kitOne K (.ref (c i)) (.ref (c j)) = some (decide (i = j)) := by
  obtain ⟨cd, h1, h2⟩ := L.cls i hi
  obtain ⟨cj, h3, _⟩ := L.cls j (by omega)
  unfold PySem.W.kitOne
  by_cases e : i = j
  · subst e
    rw [if_pos (by simp), decide_eq_true rfl]
  · have ne : c i ≠ c j := fun z => e (L.inj i j hi (by omega) z)
    have n1 : c 17 ≠ c j := fun z => by
      have := L.inj 17 j (by omega) (by omega) z
      omega
    have n2 : c 18 ≠ c j := fun z => by
      have := L.inj 18 j (by omega) (by omega) z
      omega
    rw [if_neg (by simp [ne]), decide_eq_false e]
    have ov : (over c i).contains (.ref (c j)) = false := by
      unfold over
      repeat' split
      all_goals simp [tVE, tLE, tOE, tIE, Ne.symm n1, Ne.symm n2]
    show (if ((PySem.W.clsIn K (c j)).isSome && PySem.W.typeIn K (.ref (c j)) == some (.type "type")) = true then PySem.W.subIn K (.ref (c i)) (.ref (c j)) else none) = _
    rw [h3, L.ty j (by omega), if_pos (by simp)]
    show (PySem.W.clsIn K (c i)).bind _ = _
    rw [h1, Option.bind_some, h2]
    show some ((Value.ref (c i) :: over c i).contains (.ref (c j))) = _
    rw [List.contains_cons, ov]
    simp [Ne.symm ne]
/-- the base classes of this program -/
theorem kit_base {P : Program} {w : World} {K : PySem.W.Frag} {mg : Str → Option Value} {base : Heap} (L : Lay P w K mg base c) {i j : Nat} (hi : i < 17) (hj : j = 17 ∨ j = 18) : PySem.W.kitOne K (.ref (c i)) (.ref (c j)) = some ((over c i).contains (.ref (c j))) := by
  obtain ⟨cd, h1, h2⟩ := L.cls i (by omega)
  have lj : j < 19 := by omega
  obtain ⟨cj, h3, _⟩ := L.cls j lj
  have ne : c i ≠ c j := fun z => by
    have := L.inj i j (by omega) lj z
    omega
  unfold PySem.W.kitOne
  rw [if_neg (by simp [ne])]
  show (if ((PySem.W.clsIn K (c j)).isSome && PySem.W.typeIn K (.ref (c j)) == some (.type "type")) = true then PySem.W.subIn K (.ref (c i)) (.ref (c j)) else none) = _
  rw [h3, L.ty j lj, if_pos (by simp)]
  show (PySem.W.clsIn K (c i)).bind _ = _
  rw [h1, Option.bind_some, h2]
  show some ((Value.ref (c i) :: over c i).contains (.ref (c j))) = _
  rw [List.contains_cons]
  simp [Ne.symm ne]
theorem kit_type {P : Program} {w : World} {K : PySem.W.Frag} {mg : Str → Option Value} {base : Heap} (L : Lay P w K mg base c) {i : Nat} {T : String} (hi : i < 19) (hT : PySem.W.kitMeta T = true) : PySem.W.kitOne K (.ref (c i)) (.type T) = some ((over c i).contains (.type T)) := by
  obtain ⟨cd, h1, h2⟩ := L.cls i hi
  unfold PySem.W.kitOne
  rw [if_neg (by simp)]
  show (if PySem.W.kitMeta T = true then PySem.W.subIn K (.ref (c i)) (.type T) else none) = _
  rw [if_pos hT]
  show (PySem.W.clsIn K (c i)).bind _ = _
  rw [h1, Option.bind_some, h2]
  show some ((Value.ref (c i) :: over c i).contains (.type T)) = _
  rw [List.contains_cons]
  rfl
end
end EvX

/-! steps -/
namespace EvX
open PySem PySem.Spec PySem.Calls PyProof.Rows L2 EvG
section
variable {σ : L2.St} {H : Hp} {Q : VK} {K : PySem.W.Frag} {te to : TE} {ta : TA} {C : Addr} {ns : List Str} {rev : Bool} {D : Ends} {c : Nat → Addr}
theorem g_newE (h : ta σ H fun vs H1 => vs.length = ns.length ∧ ∀ a H2, H1 a = none → Same H1 H2 → IsE C (FF ns (if rev then vs.reverse else vs)) a H2 → Q (.ref a) H2) : tNewE C ns rev ta σ H Q := h
theorem g_lstX (h : ta σ H fun xs H1 => xs.length ≤ sizeLine ∧ ∀ p, H1 p = none → p ≠ sysModules → Q (.ref p) (upd H1 p (.lst xs))) : tLstX ta σ H Q := h
theorem g_fld {f : Str} (h : te σ H fun x H1 => ∃ (a C : Addr) (fs : List (Str × V)) (v : V), x = .ref a ∧ AskC K C ∧ PySem.W.findIn K (.ref C) f = some none ∧ IsE C fs a H1 ∧ fs.lookup f = some v ∧ Q v H1) : tFld K f te σ H Q := h
theorem g_put {f : Str} (h : te σ H fun y H1 => to σ H1 fun x H2 => ∃ a C : Addr, x = .ref a ∧ (∃ B n i bm, ErrC K C B n i bm) ∧ PySem.W.takerIn K C f = some none ∧
  ((H2 a = some (exo a C none) ∧ ∀ H', LaidE H2 a C [(f, y)] H' → D.nx σ H') ∨ ∃ (H0 : Hp) (fs : List (Str × V)), LaidE H0 a C fs H2 ∧ fs.length ≤ 900 ∧ ∀ H', LaidE H0 a C ((f, y) :: fs) H' → D.nx σ H')) : tPut K f to te D σ H := h
theorem g_ls (h : ta σ H fun vs H1 => ∃ l xs, vs = [.ref l] ∧ SqL K H1 l xs ∧ ∀ (p : Addr) (ts : List Addr) (H' : Hp), Same H1 H' → H' p = some (.lst (ts.map V.ref)) → ts.length = xs.length → (∀ (j : Nat) (t : Addr), ts[j]? = some t → H' t = some (.tup [.int (j : Nat), xs.getD j .non])) → Q (.ref p) H') : tLsEnum K ta σ H Q := h
theorem g_askE {P : Program} {w : World} {mg : Str → Option Value} {base : Heap} {a : Addr} {fs : List (Str × V)} {i j : Nat} (L : Lay P w K mg base c) (hi : i < 19) (hj : j < 17) (x : IsE (c i) fs a H) (q : Q (.bl (decide (i = j))) H) : rAskE K [.ref a, .ref (c j)] H Q :=
  ⟨a, c i, fs, .ref (c j), .ref (c j), _, rfl, fun u r => r, L.ask i hi, x, kit_own L hi hj, q⟩
theorem over17 {P : Program} {w : World} {mg : Str → Option Value} {base : Heap} (L : Lay P w K mg base c) {i : Nat} (hi : i < 17) : (over c i).contains (.ref (c 17)) = decide (i < 13) := by
  have n : c 18 ≠ c 17 := fun z => by
    have := L.inj 18 17 (by omega) (by omega) z
    omega
  by_cases h : i < 13
  · rw [decide_eq_true h]
    unfold over
    rw [if_pos h]
    simp
  · rw [decide_eq_false h]
    unfold over
    rw [if_neg h]
    repeat' split
    all_goals simp [tVE, tLE, tOE, tIE, Ne.symm n, n]
theorem over18 {P : Program} {w : World} {mg : Str → Option Value} {base : Heap} (L : Lay P w K mg base c) {i : Nat} (hi : i < 17) : (over c i).contains (.ref (c 18)) = decide (i = 13 ∨ i = 14) := by
  have n : c 17 ≠ c 18 := fun z => by
    have := L.inj 17 18 (by omega) (by omega) z
    omega
  by_cases h : i = 13 ∨ i = 14
  · rw [decide_eq_true h]
    unfold over
    rw [if_neg (by omega), if_pos (by omega)]
    simp
  · rw [decide_eq_false h]
    unfold over
    repeat' split
    all_goals first
      | (exfalso; omega)
      | simp [tVE, tLE, tOE, tIE, Ne.symm n, n]
theorem g_askN {P : Program} {w : World} {mg : Str → Option Value} {base : Heap} {a : Addr} {fs : List (Str × V)} {i : Nat} (L : Lay P w K mg base c) (hi : i < 17) (x : IsE (c i) fs a H) (q : Q (.bl (decide (i < 13))) H) : rAskE K [.ref a, .ref (c 17)] H Q :=
  ⟨a, c i, fs, .ref (c 17), .ref (c 17), _, rfl, fun u r => r, L.ask i (by omega), x, by rw [← over17 L hi]; exact kit_base L hi (.inl rfl), q⟩
theorem g_askM {P : Program} {w : World} {mg : Str → Option Value} {base : Heap} {a : Addr} {fs : List (Str × V)} {i : Nat} (L : Lay P w K mg base c) (hi : i < 17) (x : IsE (c i) fs a H) (q : Q (.bl (decide (i = 13 ∨ i = 14))) H) : rAskE K [.ref a, .ref (c 18)] H Q :=
  ⟨a, c i, fs, .ref (c 18), .ref (c 18), _, rfl, fun u r => r, L.ask i (by omega), x, by rw [← over18 L hi]; exact kit_base L hi (.inr rfl), q⟩
theorem g_askT {P : Program} {w : World} {mg : Str → Option Value} {base : Heap} {a : Addr} {fs : List (Str × V)} {i : Nat} {T : String} (L : Lay P w K mg base c) (hi : i < 19) (hT : PySem.W.kitMeta T = true) (x : IsE (c i) fs a H) (q : Q (.bl ((over c i).contains (.type T))) H) : rAskE K [.ref a, .ty T] H Q :=
  ⟨a, c i, fs, .ty T, .type T, _, rfl, fun u r => r, L.ask i hi, x, kit_type L hi hT, q⟩
theorem g_inT {x : V} {p : Addr} {xs : List V} (h : H p = some (.tup xs)) (fx : flatV x = true) (fs : xs.all flatV = true) (q : Q (.bl (inV x xs)) H) : rIn K false x (.ref p) H Q := ⟨p, xs, rfl, .inr (SqT.of h), fx, fs, q⟩
theorem g_repX {l : Addr} {k : Int} {v : V} (h : H l = some (.lst [v])) (k0 : 0 ≤ k) (k1 : k ≤ 1) (q : ∀ p, H p = none → p ≠ sysModules → Q (.ref p) (upd H p (.lst (List.replicate k.toNat v)))) : rRepX (.ref l) (.int k) H Q := ⟨l, k, v, rfl, rfl, h, k0, k1, q⟩
theorem g_reprX {a : Addr} {d : PyData} (hd : Dx H (.ref a) d) (sh : d.showable = true) (dep : d.depth ≤ 40) (sz : d.shown.length ≤ sizeLine) (q : Q (.str d.shown) H) : rReprX [.ref a] H Q := ⟨a, d, rfl, hd, sh, dep, sz, q⟩
end
theorem g_catW {H : Hp} {Q : VK} {l b : Addr} {xs zs ws : List V} (h : H l = some (.lst xs)) (h2 : H b = some (.lst zs)) (e : xs ++ zs = ws) (z : ws.length ≤ sizeLine) (q : ∀ p, H p = none → Q (.ref p) (upd H p (.lst ws))) : rCat (.ref l) (.ref b) H Q :=
  ⟨l, b, xs, zs, rfl, rfl, h, h2, by rw [← List.length_append, e]; exact z, by rw [e]; exact q⟩
theorem g_nameR {i : Nat} {v : V} {σ σ' : L2.St} {H : Hp} {QS : L2.St → Hp → Prop} (h : σ.set i (some v) = σ') (q : QS σ' H) : gName i v σ H QS := by
  subst h
  exact q
theorem same_trans {H H1 H2 : Hp} (a : Same H H1) (b : Same H1 H2) : Same H H2 := fun x o h => b x o (a x o h)
theorem same_upd {H H' : Hp} {p : Addr} {o : HO} (s : Same H H') (n : H' p = none) : Same H (upd H' p o) := fun b u e => ext_new n b u (s b u e)
end EvX

/-! calls with ** of a dict whose keys are texts: what the model does, by what the dict holds -/
namespace KwX
open PySem PySem.Spec PySem.Calls PyProof.Rows
section
variable {prog : Program} {w : World} {K : Type} [DecidableEq K] {knd : KeyKind prog w K} {A : Around} {E : Value → Shared → Prop} {s : Shared}

theorem find_none {d : Addr} {kvs : List (K × Value)} {k : K} {key : Value} {Q : Option Nat → Shared → Prop} (hkey : knd.is k key = true) (hm : s.heap.DictOf knd d kvs) (hn : k ∉ kvs.map (·.1)) (hQ : Q none s) :
    wpAny (model prog w) A (dictFind d key (knd.hash k)) Q E s := by
  obtain ⟨o, es, ep, ho, hc, hd, hk, hp, hnd⟩ := hm
  refine wpAny_dictFind_of hkey ho hd hk ?_
  have hidx : (es.findIdx? fun e => knd.is k e.key) = kvs.findIdx? fun kv => decide (kv.1 = k) := by
    rw [← hp.findIdx k]; obtain ⟨l⟩ := es; simp
  have h0 : (kvs.findIdx? fun kv => decide (kv.1 = k)) = none := by
    rw [List.findIdx?_eq_none_iff]
    intro x hx
    exact decide_eq_false fun e => hn (List.mem_map.mpr ⟨x, hx, e⟩)
  rw [hidx, h0]; exact hQ

theorem put_new {d : Addr} {kvs : List (K × Value)} {k : K} {key v : Value} {Q : Unit → Shared → Prop} (hkey : knd.is k key = true) (hm : s.heap.DictOf knd d kvs) (hn : k ∉ kvs.map (·.1))
    (hQ : ∀ h', h'.DictOf knd d (kvs ++ [(k, v)]) → Heap.SameBut d s.heap h' → Q () { s with heap := h' }) (hsz : kvs.length ≤ sizeLine) :
    wpAny (model prog w) A (dictPut d (knd.hash k) key v) Q E s := by
  unfold dictPut
  refine wpAny_bind (find_none hkey hm hn ?_)
  obtain ⟨o, es, ep, ho, hc, hd, hk, hp, hnd⟩ := hm
  have hes : es.size ≤ sizeLine := by
    have e1 := hp.length
    have e2 : es.toList.length = es.size := by simp
    omega
  refine wpAny_updateDictKeys (hz := hes) ho hd (hQ _ ⟨_, _, ep + 1, Heap.get?_update_self _ ho (Obj.isFreed_of_dict (Obj.data_mapDictKeys hd _)), hc.mapDictKeys _, Obj.data_mapDictKeys hd _, hk.push hkey _, ?_, ?_⟩ (Heap.SameBut.update ..))
  · have := hp.append hkey (knd.hash k) v
    obtain ⟨l⟩ := es
    simpa using this
  · rw [List.map_append, List.nodup_append]
    refine ⟨hnd, by simp, ?_⟩
    intro a ha b hb
    simp only [List.map_cons, List.map_nil, List.mem_singleton] at hb
    subst hb
    exact fun e => hn (e ▸ ha)

theorem not_ref_of {v : Value} (h : carriedByValue v = true) : ∀ a, v ≠ .ref a := by
  intro a e
  subst e
  revert h
  unfold carriedByValue
  exact fun z => nomatch z

theorem merge_new {d o : Addr} {more : List (K × Value)} {Q : Unit → Shared → Prop} (hdo : d ≠ o) (hoS : (o == sysModules) = false)
    (hd : s.heap.DictOf knd d ([] : List (K × Value))) (ho : s.heap.DictOf knd o more)
    (hQ : ∀ h', h'.DictOf knd d more → Heap.SameBut d s.heap h' → Q () { s with heap := h' }) (hsz : more.length ≤ sizeLine) :
    wpAny (model prog w) A (mergeMapping d (.ref o) true) Q E s := by
  obtain ⟨od, esd, epd, hod, hcd, hdd, hkd, hpd, hnd⟩ := id hd
  obtain ⟨oo, eso, epo, hoo, hco, hdo', hko, hpo, hno⟩ := id ho
  have hlen : more.length = eso.size := by rw [← hpo.length]; simp
  unfold mergeMapping
  refine wpAny_bind (wpAny_isInstance ho.typeIs isSubtype_dict_dict ?_)
  rw [if_pos rfl]
  refine wpAny_bind (wpAny_specialOf ho.typeIs F.slot_dict_iter.lookup (wpAny_bind (wpAny_pure ?_)))
  dsimp only
  rw [beq_self_eq_true]
  dsimp only
  rw [if_neg (by rw [hoS]; exact Bool.false_ne_true)]
  refine wpAny_bind (wpAny_dictEntries hod hdd ?_)
  have h0 : esd = #[] := by
    have e1 := hpd.length
    have e2 : esd.toList = [] := List.length_eq_zero_iff.mp (by simpa using e1)
    simpa using e2
  rw [if_pos (by rw [h0]; rfl)]
  refine wpAny_bind (wpAny_dictEntries hoo hdo' ?_)
  have hloop : (forIn eso PUnit.unit fun e (_ : PUnit) => (match e.key with
      | .ref _ => (do
        let q ← specialOf e.key "__eq__"
        if (q != some (.builtin "object.__eq__")) = true then
          if (eso.filter (·.hash == e.hash)).size > 1 then (do let _ ← (unsupported "dict.merge-into-an-empty-dict:keys-of-equal-hash" : Sem PUnit); pure (ForInStep.yield PUnit.unit)) else pure (ForInStep.yield PUnit.unit)
        else pure (ForInStep.yield PUnit.unit) : Sem (ForInStep PUnit))
      | _ => pure (ForInStep.yield PUnit.unit) : Sem (ForInStep PUnit))) = pure PUnit.unit := by
    rw [← Array.forIn_toList]
    refine forIn_yield_id _ fun e he c => ?_
    obtain ⟨k, hkey, _⟩ := hko e (Array.mem_toList_iff.mp he)
    have z := not_ref_of (knd.byValue k _ hkey)
    cases q : e.key with
    | ref a => exact absurd q (z a)
    | _ => rfl
  have Z : ∀ {t : PUnit → Sem Unit}, wpAny (model prog w) A (t PUnit.unit) Q E s → wpAny (model prog w) A (forIn eso PUnit.unit (fun e (_ : PUnit) => (match e.key with
      | .ref _ => (do
        let q ← specialOf e.key "__eq__"
        if (q != some (.builtin "object.__eq__")) = true then
          if (eso.filter (·.hash == e.hash)).size > 1 then (do let _ ← (unsupported "dict.merge-into-an-empty-dict:keys-of-equal-hash" : Sem PUnit); pure (ForInStep.yield PUnit.unit)) else pure (ForInStep.yield PUnit.unit)
        else pure (ForInStep.yield PUnit.unit) : Sem (ForInStep PUnit))
      | _ => pure (ForInStep.yield PUnit.unit) : Sem (ForInStep PUnit))) >>= t) Q E s := fun h => by rw [hloop]; exact wpAny_bind (wpAny_pure h)
  refine Z ?_
  refine wpAny_bind (wpAny_dictEntries hoo hdo' ?_)
  refine wpAny_bind (wpAny_dictEpoch hoo hdo' ?_)
  refine wpAny_bind ?_
  refine wpAny_forIn_list _
    (fun rest _ s' => ∃ h' i, s' = { s with heap := h' } ∧ rest = List.range' i (eso.size - i) ∧ i ≤ eso.size ∧ h'.DictOf knd d (more.take i) ∧ h'.get? o = some oo ∧ Heap.SameBut d s.heap h')
    _ ?_ ?_ _ _ ⟨s.heap, 0, rfl, by rw [List.range_eq_range', Nat.sub_zero], Nat.zero_le _, by simpa using hd, hoo, Heap.SameBut.refl _ _⟩
  · rintro x rest b s' ⟨h', i, rfl, hr, hi, hd', hoo', hs'⟩
    have hlt : i < eso.size := by
      rcases Nat.lt_or_ge i eso.size with h | h
      · exact h
      · rw [Nat.sub_eq_zero_of_le h] at hr; simp at hr
    obtain ⟨rfl, hrest⟩ : x = i ∧ rest = List.range' (i + 1) (eso.size - (i + 1)) := by
      have e : eso.size - i = (eso.size - (i + 1)) + 1 := by omega
      rw [e, List.range'_succ] at hr
      injection hr with h1 h2
      exact ⟨h1, h2⟩
    refine wpAny_bind (wpAny_dictEntries hoo' hdo' ?_)
    rw [Array.getElem?_eq_getElem hlt]
    obtain ⟨kv, hkv⟩ : ∃ kv, more[x]? = some kv := ⟨more[x]'(by rw [hlen]; exact hlt), List.getElem?_eq_getElem _⟩
    obtain ⟨k, v⟩ := kv
    obtain ⟨hkey, hval⟩ := hpo.get? (e := eso[x]) (by simp [hlt]) hkv
    obtain ⟨k', hkey', hhash⟩ := hko eso[x] (Array.getElem_mem hlt)
    obtain rfl : k' = k := knd.inj _ _ _ hkey' hkey
    have hfresh : k' ∉ (more.take x).map (·.1) := by
      intro z
      obtain ⟨y, hy, ey⟩ := List.mem_map.mp z
      obtain ⟨j, hj, hjy⟩ := List.mem_take_iff_getElem.mp hy
      have hjx : j < x := by omega
      have n1 : (more.map (·.1))[j]? = some k' := by rw [List.getElem?_map, List.getElem?_eq_getElem (by omega), hjy, Option.map_some, ey]
      have n2 : (more.map (·.1))[x]? = some k' := by rw [List.getElem?_map, hkv, Option.map_some]
      have := (List.getElem?_inj (by rw [List.length_map]; omega) hno).mp (n1.trans n2.symm)
      omega
    have hmx : (more.take x).length ≤ sizeLine := by
      have e2 : (more.take x).length ≤ more.length := by rw [List.length_take]; omega
      omega
    dsimp only
    rw [hhash, hval]
    refine wpAny_bind (wpAny_holding ?_)
    rw [if_pos rfl]
    refine wpAny_bind (find_none hkey hd' hfresh ?_)
    rw [if_neg (by decide)]
    refine put_new hkey hd' hfresh (fun h'' hd'' hs'' => ?_) hmx
    have hoo'' : h''.get? o = some oo := (hs''.2 o (Ne.symm hdo)).trans hoo'
    refine wpAny_bind (wpAny_dictEpoch hoo'' hdo' ?_)
    rw [if_neg (by simp)]
    exact wpAny_pure ⟨h'', x + 1, rfl, hrest, hlt, by rw [List.take_add_one, hkv]; exact hd'', hoo'', hs'.trans hs''⟩
  · rintro b s' ⟨h', i, rfl, hr, hi, hd', hoo', hs'⟩
    have hin : i = eso.size := by
      rcases Nat.lt_or_ge i eso.size with h | h
      · have e : eso.size - i = (eso.size - (i + 1)) + 1 := by omega
        rw [e, List.range'_succ] at hr; exact nomatch hr
      · exact Nat.le_antisymm hi h
    refine wpAny_pure (hQ h' ?_ hs')
    rw [hin, ← hlen, List.take_length] at hd'; exact hd'
end
end KwX

namespace KwX
open PySem PySem.Spec PySem.Calls PyProof.Rows L2
def kwK {α : Type} (l : List (Str × α)) : List (Key × α) := l.map fun p => (Sum.inr p.1, p.2)
abbrev emptyDict : Obj := { cls := .type "dict", data := .dict #[] }
section
variable {prog : Program} {w : World} {A : Around} {E : Value → Shared → Prop} {s : Shared}
theorem key_str {x : Str} {v : Value} (h : (mixKind prog w).is (Sum.inr x) v = true) : ∃ t, v = .str x t := by
  cases v with
  | str y t =>
    have z := (mixKind prog w).inj (.str y t) (Sum.inr x) (Sum.inr y) h (mixKind_str prog w y t)
    injection z with z
    exact ⟨t, by rw [z]⟩
  | _ => first | (revert h; exact fun z => nomatch z) | (exfalso; revert h; unfold mixKind; decide) | skip
theorem pairs_kw : ∀ {es : List DictEntry} {kw : List (Str × Value)}, Pairs (mixKind prog w) es (kwK kw) → ∀ {β : Type} (acc : List (Str × Value)) (g : DictEntry → List (Str × Value) → Sem (ForInStep (List (Str × Value)))),
    (∀ e x t a, e.key = .str x t → g e a = pure (.yield (a ++ [(x, e.val)]))) → forIn es acc g = pure (acc ++ kw)
  | [], kw, h, β, acc, g, hg => by
    cases kw with
    | nil => rw [List.append_nil]; rfl
    | cons p r => exact nomatch h
  | e :: es, kw, h, β, acc, g, hg => by
    cases kw with
    | nil => exact nomatch h
    | cons p r =>
      cases h with
      | cons h1 h2 h3 =>
        obtain ⟨t, ht⟩ := key_str h1
        have ih := pairs_kw h3 (β := β) (acc ++ [(p.1, e.val)]) g hg
        have h2' : e.val = p.2 := h2
        rw [List.forIn_cons, hg e p.1 t acc ht]
        show (forIn es (acc ++ [(p.1, e.val)]) g) = _
        rw [ih, h2', List.append_assoc]
        rfl
theorem kws_in {f : Value} {d : Addr} {kw : List (Str × Value)} {Q : List (Str × Value) → Shared → Prop} (hm : s.heap.DictOf (mixKind prog w) d (kwK kw)) (h : Q kw s) : wpAny (model prog w) A (keywordsIn f d) Q E s := by
  obtain ⟨o, es, ep, ho, hc, hd, hk, hp, hnd⟩ := hm
  unfold keywordsIn
  refine wpAny_bind (wpAny_dictEntries ho hd ?_)
  rw [← Array.forIn_toList]
  refine wpAny_bind (wpAny_of_eq (pairs_kw hp (β := Unit) [] _ fun e x t a q => ?_) ?_)
  · dsimp only
    rw [q]
  · rw [List.nil_append]; exact wpAny_pure h
theorem merged_kw {f : Value} {x : Sem Value} {pos : Pos} {Q : Addr → Shared → Prop}
    (h : wpAny (model prog w) A x (fun v s1 => ∃ o kw, v = .ref o ∧ s.heap.objs.size ≠ o ∧ (o == sysModules) = false ∧ s1.heap.get? s.heap.objs.size = some emptyDict ∧ s1.heap.DictOf (mixKind prog w) o (kwK kw) ∧ kw.length ≤ sizeLine ∧
      ∀ h', h'.DictOf (mixKind prog w) s.heap.objs.size (kwK kw) → Heap.SameBut s.heap.objs.size s1.heap h' → Q s.heap.objs.size { s1 with heap := h' }) E { s with heap := s.heap.push emptyDict }) :
    wpAny (model prog w) A (mergedKeywords f [(none, (do let v ← x; standAt pos; pure v))]) Q E s := by
  unfold mergedKeywords
  refine wpAny_bind (wpAny_alloc ?_)
  refine wpAny_bind (wpAny_holding ?_)
  dsimp only
  refine wpAny_bind ?_
  rw [List.forIn_cons]
  refine wpAny_bind ?_
  dsimp only
  refine wpAny_bind ?_
  rw [if_pos (show ([] : List (Str × Sem Value)).isEmpty = true from rfl)]
  refine wpAny_pure ?_
  refine wpAny_bind (wpAny_bind (wpAny_mono h (fun v s1 h1 => ?_) fun _ _ z => z))
  obtain ⟨o, kw, rfl, hne, hS, hD, hO, hz, hq⟩ := h1
  refine wpAny_bind (wpAny_standAt (wpAny_pure ?_))
  refine wpAny_bind ?_
  refine wpAny_onRaise ?_
  refine wpAny_holding ?_
  refine wpAny_tryCatch ?_
  refine wpAny_onRaise ?_
  have hd0 : s1.heap.DictOf (mixKind prog w) s.heap.objs.size ([] : List (Key × Value)) := ⟨_, _, 0, hD, ⟨rfl, rfl, rfl⟩, rfl, fun e he => (by simp at he), .nil, List.nodup_nil⟩
  refine merge_new hne hS hd0 hO (fun h' hd' sb => ?_) (by unfold kwK; rw [List.length_map]; exact hz)
  refine wpAny_pure ?_
  dsimp only
  rw [List.forIn_nil]
  refine wpAny_pure ?_
  rw [if_pos (show ([] : List (Str × Sem Value)).isEmpty = true from rfl)]
  exact wpAny_pure (wpAny_pure (hq h' hd' sb))
theorem args_kk {f : Value} {x : Sem Value} {pos : Pos} {Q : Args → Shared → Prop}
    (h : wpAny (model prog w) A x (fun v s1 => ∃ o kw, v = .ref o ∧ s.heap.objs.size ≠ o ∧ (o == sysModules) = false ∧ s1.heap.get? s.heap.objs.size = some emptyDict ∧ s1.heap.DictOf (mixKind prog w) o (kwK kw) ∧ kw.length ≤ sizeLine ∧
      ∀ h', h'.DictOf (mixKind prog w) s.heap.objs.size (kwK kw) → Heap.SameBut s.heap.objs.size s1.heap h' → Q ⟨[], kw⟩ { s1 with heap := h' }) E { s with heap := s.heap.push emptyDict }) :
    wpAny (model prog w) A (evalArgs f true [] [(none, (do let v ← x; standAt pos; pure v))]) Q E s := by
  unfold evalArgs
  dsimp only
  refine wpAny_bind (wpAny_of_eq (by rw [spliced] : spliced [] = pure []) ?_)
  refine wpAny_bind (wpAny_pure ?_)
  refine wpAny_holding ?_
  rw [if_neg (by simp)]
  refine wpAny_bind (merged_kw (wpAny_mono h (fun v s1 h1 => ?_) fun _ _ z => z))
  obtain ⟨o, kw, rfl, hne, hS, hD, hO, hz, hq⟩ := h1
  refine ⟨o, kw, rfl, hne, hS, hD, hO, hz, fun h' hd' sb => ?_⟩
  refine wpAny_bind (wpAny_pure ?_)
  refine wpAny_bind (wpAny_holding (kws_in hd' ?_))
  exact wpAny_pure (hq h' hd' sb)
theorem call_kk {f : Value} {first : List Value} {x : Sem Value} {pos p2 : Pos} {Q : Value → Shared → Prop} {K : PySem.W.Frag} (hk : PySem.W.keepIn K f = true)
    (h : wpAny (model prog w) A x (fun v s1 => ∃ o kw, v = .ref o ∧ s.heap.objs.size ≠ o ∧ (o == sysModules) = false ∧ s1.heap.get? s.heap.objs.size = some emptyDict ∧ s1.heap.DictOf (mixKind prog w) o (kwK kw) ∧ kw.length ≤ sizeLine ∧
      ∀ h', h'.DictOf (mixKind prog w) s.heap.objs.size (kwK kw) → Heap.SameBut s.heap.objs.size s1.heap h' → K.In h' ∧ wpAny (model prog w) A (call f (first ++ []) kw) Q E { s1 with heap := h' }) E { s with heap := s.heap.push emptyDict }) :
    wpAny (model prog w) A (callWith pos f first [] [(none, (do let v ← x; standAt p2; pure v))]) Q E s := by
  unfold callWith
  refine wpAny_bind (wpAny_holding (args_kk (wpAny_mono h (fun v s1 h1 => ?_) fun _ _ z => z)))
  obtain ⟨o, kw, rfl, hne, hS, hD, hO, hz, hq⟩ := h1
  refine ⟨o, kw, rfl, hne, hS, hD, hO, hz, fun h' hd' sb => ?_⟩
  obtain ⟨hK, hc⟩ := hq h' hd' sb
  refine wpAny_bind (wpAny_standAt ?_)
  obtain ⟨k, hk', L⟩ := PySem.W.keeps_K (M := model prog w) hk _ hK
  refine wpAny_bind (L.here ?_)
  have tail : ∀ {t : Sem Value}, wpAny (model prog w) A t Q E { s1 with heap := h' } → wpAny (model prog w) A (t >>= fun r => holding [r] point >>= fun _ => pure r) Q E { s1 with heap := h' } :=
    fun ht => wpAny_bind (wpAny_mono ht (fun r s₂ hr => wpAny_bind (wpAny_holding (wpAny_point (wpAny_pure hr)))) fun _ _ x => x)
  have marked (mk : Value) : wpAny (model prog w) A (callMarked mk f (first ++ []) kw) Q E { s1 with heap := h' } := by unfold callMarked; exact Calls.wpAny_keep hc
  rcases hk' with rfl | rfl | rfl <;> dsimp only [List.any_nil, List.any_cons, Option.isNone, Bool.or_true, Bool.or_false, Bool.false_or] <;> first | exact tail (marked _) | exact tail (wpAny_operating hc)
end
end KwX

namespace KwX
open PySem PySem.Spec PySem.Calls PyProof.Rows L2 StX
section
variable {prog : Program} {w : World} {A : Around} {E : Value → Shared → Prop} {s : Shared}
/-- the loop that puts the keywords that are left over aside -/
theorem extra_loop {β : Type} {g : Str × Value → β × List (Str × Value) → Sem (ForInStep (β × List (Str × Value)))} (b : β) : ∀ (kw : List (Str × Value)) (acc : List (Str × Value)), (∀ p ∈ kw, ∀ a, g p (b, a) = pure (.yield (b, a ++ [p]))) →
    forIn kw (b, acc) g = pure (b, acc ++ kw)
  | [], acc, _ => by rw [List.append_nil]; rfl
  | p :: r, acc, h => by
    rw [List.forIn_cons, h p (.head _) acc]
    show (forIn r (b, acc ++ [p]) g) = _
    rw [extra_loop b r (acc ++ [p]) fun q hq => h q (.tail _ hq), List.append_assoc]
    rfl
theorem bind_kw1 {params : Arguments} {name qual : Str} {body : List Stmt} {scope : Scope} {kV doc pm cdv ct : Value} {an : Option Addr} {u : Value} {kw : List (Str × Value)} {p1 pd : Str} {a1 ad : Arg} {Q : List (Str × Value) → Shared → Prop}
    (hpo : params.posonlyargs = []) (hpa : params.args = [a1]) (h1 : a1.arg = p1) (hva : params.vararg = none) (hko : params.kwonlyargs = []) (hkw : params.kwarg = some ad) (hd : ad.arg = pd) (hne : ∀ p ∈ kw, p.1 ≠ p1) (hz : kw.length ≤ sizeLine)
    (h : wpAny (model prog w) A (alloc emptyDict >>= fun d => (forIn kw PUnit.unit fun x _ => (nsSet d x.1 x.2 >>= fun _ => pure (ForInStep.yield PUnit.unit))) >>= fun _ => pure [(p1, u), (pd, Value.ref d)]) Q E s) :
    wpAny (model prog w) A (bindArgs (PySem.W.fnOf name qual params body scope .none kV doc pm an cdv ct) ⟨[u], kw⟩) Q E s := by
  obtain ⟨po, pa, va, ko, kd, kwa, df⟩ := params
  dsimp only at hpo hpa hva hko hkw
  subst hpo hpa hva hko hkw h1 hd
  unfold bindArgs PySem.W.fnOf
  dsimp only
  refine wpAny_bind (wpAny_of_eq (extra_loop _ kw [] fun p hp a => ?_) ?_)
  · have e1 : ((List.map (fun x => x.arg) [a1]).contains p.fst || (List.map (fun x => x.arg) ([] : List Arg)).contains p.fst) = false := by
      simp only [List.map_cons, List.map_nil, List.contains_cons, List.contains_nil, Bool.or_false]
      exact beq_eq_false_iff_ne.mpr (hne p hp)
    rw [e1, if_neg Bool.false_ne_true, if_pos (show (some ad).isSome = true from rfl)]
  rw [List.nil_append]
  dsimp only
  refine wpAny_bind (wpAny_of_eq (a := none) rfl ?_)
  have elk : List.lookup a1.arg [(a1.arg, u)] = some u := by rw [List.lookup_cons, beq_self_eq_true]
  simp only [List.map_nil, List.map_cons, List.nil_append, List.append_nil, List.zip_cons_cons, List.zip_nil_right, List.length_cons, List.length_nil, Option.getD_none, List.drop_nil, List.take_succ_cons, List.take_zero, List.filter_cons, List.filter_nil, elk, Option.isNone_some, Option.isNone_none, Nat.sub_zero, Nat.zero_add, List.isEmpty_nil, Bool.not_true, Bool.false_eq_true, if_false, List.zip_nil_right, List.filterMap_cons, List.filterMap_nil, Option.map_some, gt_iff_lt, Nat.lt_irrefl, decide_false, Bool.false_and]
  refine wpAny_bind ?_
  rw [List.forIn_nil]
  refine wpAny_pure (wpAny_bind ?_)
  rw [List.forIn_nil]
  refine wpAny_pure ?_
  rw [if_neg (by simp), if_neg (by omega)]
  simp only [elk]
  exact h
theorem ns_new {d : Addr} {es : List DictEntry} {n : Nat} {k : Str} {v : Value} {Q : Unit → Shared → Prop} (D : s.heap.get? d = some (PySem.W.dictOf es n))
    (hs : ∀ e ∈ es, e.key.isStr k = false) (hr : ∀ e ∈ es, e.refKey = false)
    (h : ∀ h', h'.get? d = some (PySem.W.dictOf (es ++ [⟨PyData.keyHash w.params k, .str k s.toks, v⟩]) (n + 1)) → Heap.SameBut d s.heap h' → Q () { s with heap := h', toks := s.toks + 1 }) :
    wpAny (model prog w) A (nsSet d k v) Q E s := by
  have e1 : es.any (·.key.isStr k) = false := by
    cases q : es.any (·.key.isStr k) with
    | false => rfl
    | true => obtain ⟨e, he, z⟩ := List.any_eq_true.mp q; rw [hs e he] at z; cases z
  have e2 : es.any (·.refKey) = false := by
    cases q : es.any (·.refKey) with
    | false => rfl
    | true => obtain ⟨e, he, z⟩ := List.any_eq_true.mp q; rw [hr e he] at z; cases z
  have e : Obj.putName k (PyData.keyHash w.params k) (.str k s.toks) v (PySem.W.dictOf es n) = PySem.W.dictOf (es ++ [⟨PyData.keyHash w.params k, .str k s.toks, v⟩]) (n + 1) := by
    rw [PySem.W.putName_dict, PySem.W.putL_new hs]
    show PySem.W.dictOf _ (if es.any (·.key.isStr k) then n else n + 1) = _
    rw [e1, if_neg Bool.false_ne_true]
  have c : aRefKeyMayBeTheName k es.toArray = false := by
    rw [aRefKeyMayBeTheName_at, ← Array.any_toList, ← Array.any_toList]
    show (!es.any (·.key.isStr k) && es.any (·.refKey)) = false
    rw [e2, Bool.and_false]
  unfold nsSet
  refine wpAny_bind (wpAny_bind (wpAny_askSetting (wpAny_pure (wpAny_bind (wpAny_mkText (wpAny_bind (wpAny_loadPart D ?_)))))))
  dsimp only
  rw [c]
  refine wpAny_updatePart D (h _ ?_ (Heap.SameBut.update ..))
  have z := Heap.get?_update_self (Obj.putName k (PyData.keyHash w.params k) (.str k s.toks) v) D (by rw [e]; rfl)
  rw [e] at z
  exact z
theorem fill {d : Addr} {Q : PUnit → Shared → Prop} : ∀ (ex : List (Str × Value)) (s : Shared) (es : List DictEntry) (n : Nat), s.heap.get? d = some (PySem.W.dictOf es n) →
    (∀ e ∈ es, ∀ x ∈ ex, e.key.isStr x.1 = false) → (∀ e ∈ es, e.refKey = false) → (ex.map (·.1)).Nodup →
    (∀ h', h'.get? d = some (PySem.W.dictOf (es ++ PySem.W.kwEs w.params s.toks ex) (n + ex.length)) → Heap.SameBut d s.heap h' → Q ⟨⟩ { s with heap := h', toks := s.toks + ex.length }) →
    wpAny (model prog w) A (forIn ex PUnit.unit fun x _ => (nsSet d x.1 x.2 >>= fun _ => pure (ForInStep.yield PUnit.unit))) Q E s
  | [], s, es, n, D, _, _, _, h => by
    rw [List.forIn_nil]
    refine wpAny_pure (h s.heap ?_ (Heap.SameBut.refl _ _))
    show s.heap.get? d = some (PySem.W.dictOf (es ++ []) n)
    rw [List.append_nil]
    exact D
  | x :: r, s, es, n, D, hs, hr, hn, h => by
    obtain ⟨hn1, hn2⟩ := List.nodup_cons.mp (show (x.1 :: r.map (·.1)).Nodup from hn)
    rw [List.forIn_cons]
    refine wpAny_bind (wpAny_bind (ns_new D (fun e he => hs e he x (.head _)) hr fun h' D' sb => wpAny_pure ?_))
    show wpAny (model prog w) A (forIn r PUnit.unit fun x _ => (nsSet d x.1 x.2 >>= fun _ => pure (ForInStep.yield PUnit.unit))) Q E { s with heap := h', toks := s.toks + 1 }
    refine fill r { s with heap := h', toks := s.toks + 1 } _ _ D' (fun e he y hy => ?_) (fun e he => ?_) hn2 fun h'' D'' sb' => ?_
    · rcases List.mem_append.mp he with he | he
      · exact hs e he y (.tail _ hy)
      · obtain rfl := List.mem_singleton.mp he
        show (x.1 == y.1) = false
        exact beq_eq_false_iff_ne.mpr fun q => hn1 (by rw [q]; exact List.mem_map_of_mem hy)
    · rcases List.mem_append.mp he with he | he
      · exact hr e he
      · obtain rfl := List.mem_singleton.mp he
        rfl
    · have t1 : s.toks + 1 + r.length = s.toks + (r.length + 1) := by omega
      have t2 : n + 1 + r.length = n + (r.length + 1) := by omega
      show Q ⟨⟩ { s with heap := h'', toks := s.toks + 1 + r.length }
      rw [t1]
      refine h h'' ?_ (sb.trans sb')
      rw [t2, List.append_assoc] at D''
      exact D''
theorem kw_pairs : ∀ (ex : List (Str × Value)) (t : Tok), Pairs (mixKind prog w) (PySem.W.kwEs w.params t ex) (kwK ex)
  | [], _ => Pairs.nil
  | x :: r, t => Pairs.cons (mixKind_str prog w x.1 t) rfl (kw_pairs r (t + 1))
theorem kw_nodup {α : Type} {ex : List (Str × α)} (hn : (ex.map (·.1)).Nodup) : ((kwK ex).map (·.1)).Nodup := by
  have e : (kwK ex).map (·.1) = (ex.map (·.1)).map (Sum.inr : Str → Key) := by unfold kwK; rw [List.map_map, List.map_map]; rfl
  rw [e]
  exact hn.map _ fun a b q z => q (by injection z)
theorem kw_dict {h : Heap} {d : Addr} {ex : List (Str × Value)} {t : Tok} {n : Nat} (hn : (ex.map (·.1)).Nodup) (D : h.get? d = some (PySem.W.dictOf (PySem.W.kwEs w.params t ex) n)) : h.DictOf (mixKind prog w) d (kwK ex) :=
  ⟨_, (PySem.W.kwEs w.params t ex).toArray, n, D, ⟨rfl, rfl, rfl⟩, rfl, fun e he => by
    obtain ⟨k, u, hk, hh⟩ := PySem.W.kwEs_key ex t e (List.mem_toArray.mp he)
    exact ⟨Sum.inr k, by rw [hk]; exact mixKind_str prog w k u, hh.trans rfl⟩, kw_pairs ex t, kw_nodup hn⟩
end
end KwX

/-! defs with **kw: their promise, calls, new instances -/
namespace KwX
open PySem PySem.Spec PySem.Calls PyProof.Rows L2 StX
abbrev SpK := List V → List (Str × V) → Hp → VK → XK → Prop
def FnK (P : Program) (w : World) (K : PySem.W.Frag) (mg : Str → Option Value) (base : Heap) (CX : CXT) (k : Nat) (f : Addr) (sp : SpK) : Prop :=
  ∀ (A : Around) (outer : List Env) (s : Shared) (H : Hp) (us : List Value) (kw : List (Str × Value)) (vs : List V) (l : List (Str × V)) (Q : VK) (E : XK), Room k A → Env0 P w K mg base A outer s H → Vals vs us → KV l kw → (l.map (·.1)).Nodup → sp vs l H Q E →
    codeAny (model P w) A (.call (.ref f) ⟨us, kw⟩) (CR CX outer P w H s Q E) s
section
variable {P : Program} {w : World} {K : PySem.W.Frag} {mg : Str → Option Value} {base : Heap} {A : Around} {outer : List Env} {s : Shared} {H : Hp}
theorem env0_keep {a : Addr} {u : HO} {h' : Heap} {t' : Nat} (e0 : Env0 P w K mg base A outer s H) (kp : ∀ b x, s.heap.get? b = some x → h'.get? b = some x) (hz : s.heap.objs.size ≤ h'.objs.size) (ha : s.heap.objs.size ≤ a) (new : ObjOk P w (upd H a u) h' a u) :
    Env0 P w K mg base A outer { s with heap := h', toks := t' } (upd H a u) := by
  refine ⟨e0.frames, e0.mod, fun b x e => ⟨kp b x (e0.bs b x e).1, ?_⟩, Nat.le_trans e0.bsz hz, Heap.FunFrames.of_keeps (fun b x e _ => ⟨x, kp b x e, rfl⟩) e0.funs, fun b hb => ?_, e0.hok.laid kp ha new, e0.bare⟩
  · rw [upd_ne (Nat.ne_of_lt (Nat.lt_of_lt_of_le (Heap.lt_size (e0.bs b x e).1) ha))]
    exact (e0.bs b x e).2
  · obtain ⟨_, x, hx, _⟩ := e0.funs.mem hb
    rw [upd_ne (Nat.ne_of_lt (Nat.lt_of_lt_of_le (Heap.lt_size hx) ha))]
    exact e0.frf b hb
theorem kv_kwK : ∀ {l : List (Str × V)} {kw : List (Str × Value)}, KV l kw → KV (kwK l) (kwK kw)
  | _, _, .nil => .nil
  | _, _, .cons h t => .cons ⟨congrArg Sum.inr h.1, h.2⟩ (kv_kwK t)
theorem kwK_inv : ∀ {l : List (Str × V)} {vs : List (Key × Value)}, KV (kwK l) vs → ∃ kw, vs = kwK kw ∧ KV l kw
  | [], _, .nil => ⟨[], rfl, .nil⟩
  | p :: r, q :: _, .cons h t => by
    obtain ⟨kw, e, hk⟩ := kwK_inv (l := r) t
    obtain ⟨h1, h2⟩ := h
    refine ⟨(p.1, q.2) :: kw, ?_, .cons ⟨rfl, h2⟩ hk⟩
    rw [e]
    have : q = (Sum.inr p.1, q.2) := by rw [show (Sum.inr p.1 : Key) = q.1 from h1]
    rw [this]; rfl
theorem kwK_nodup {l : List (Str × V)} (hn : ((kwK l).map (·.1)).Nodup) : (l.map (·.1)).Nodup := by
  have e : (kwK l).map (·.1) = (l.map (·.1)).map (Sum.inr : Str → Key) := by unfold kwK; rw [List.map_map, List.map_map]; rfl
  rw [e] at hn
  exact List.Pairwise.of_map _ (fun a b h => fun q => h (by rw [q])) hn
theorem kwK_length {α : Type} (l : List (Str × α)) : (kwK l).length = l.length := List.length_map ..
end
section
variable {CX : CXT} {P : Program} {w : World} {K : PySem.W.Frag} {mg : Str → Option Value} {base : Heap} {k : Nat} {f : Addr} {name qual : Str} {params : Arguments} {body : List Stmt} {scope : Scope} {kV doc pm cdv ct oc : Value} {an od : Option Addr}
  {osl : Array (Option Value)} {N : List Str} {p1 pd : Str} {a1 ad : Arg} {sp : Sp}
/-- def f(self, **kw) -/
theorem fnK1 (lk : K.lookup f = some ⟨oc, od, .func (PySem.W.fnOf name qual params body scope .none kV doc pm an cdv ct), osl⟩) (hcd : PySem.W.codeIn K cdv qual = true) (S : FnScope N [p1, pd] scope) (hCX : CXUp CX)
    (hpo : params.posonlyargs = []) (hpa : params.args = [a1]) (h1 : a1.arg = p1) (hva : params.vararg = none) (hko : params.kwonlyargs = []) (hkw : params.kwarg = some ad) (hd : ad.arg = pd)
    (hbody : ∀ (A : Around) (outer : List Env) (s : Shared) (H : Hp) (vs : List V) (Q : VK) (E : XK), Room k (A.deeper (envOfC qual scope s.heap.objs.size f cdv)) → sp vs H Q E →
      ∃ t, PSs (cxOf CX P w K mg base N qual scope f cdv A outer s H E) body t ∧ t { nx := fun _ H' => Q .non H', rt := Q } (start N vs) H) :
    FnK P w K mg base CX (k + 1) f (fun vs l H Q E => ∃ x, vs = [x] ∧ (∀ p ∈ l, p.1 ≠ p1) ∧ l.length ≤ sizeLine ∧ ∀ d, H d = none → sp [x, .ref d] (upd H d (.dK (kwK l))) Q E) := by
  intro A outer s H us kw vs l Q E hr e0 r rk hn hsp
  obtain ⟨x, rfl, hne, hz, hq⟩ := hsp
  cases r with
  | @cons _ u _ _ rx rn =>
  cases rn
  have hl : l.length = kw.length := rk.length
  have hkeys : l.map (·.1) = kw.map (·.1) := KV.keys rk
  have hn' : (kw.map (·.1)).Nodup := hkeys ▸ hn
  have hne' : ∀ p ∈ kw, p.1 ≠ p1 := fun p hp e => by
    have : p.1 ∈ l.map (·.1) := by rw [hkeys]; exact List.mem_map_of_mem hp
    obtain ⟨q, hq1, hq2⟩ := List.mem_map.mp this
    exact hne q hq1 (hq2.trans e)
  have hnn : H s.heap.objs.size = none := e0.hok.fresh (Nat.le_refl _)
  refine run_bnd lk hcd S hr e0 (G := fun xs H2 => ∃ d, H d = none ∧ xs = [x, V.ref d] ∧ H2 = upd H d (.dK (kwK l))) (fun A' Ex Q' h => ?_) fun s2 H2 xs ⟨d, hdn, ex, eH⟩ hr' => ?_
  · refine bind_kw1 hpo hpa h1 hva hko hkw hd hne' (by omega) ?_
    refine wpAny_bind (wpAny_alloc (wpAny_bind ?_))
    refine fill (d := s.heap.objs.size) kw _ [] 0 (Heap.get?_push_size _ rfl) (fun _ he => nomatch he) (fun _ he => nomatch he) hn' fun h' D sb => wpAny_pure ?_
    rw [List.nil_append] at D
    have kp : ∀ b o, s.heap.get? b = some o → h'.get? b = some o := fun b o q => (sb.2 b (Nat.ne_of_lt (Heap.lt_size q))).trans (Heap.get?_push_of_some _ q)
    have hsz : s.heap.objs.size ≤ h'.objs.size := Nat.le_of_lt (Heap.lt_size D)
    have big := env0_big e0
    have new : ObjOk P w (upd H s.heap.objs.size (.dK (kwK l))) h' s.heap.objs.size (.dK (kwK l)) :=
      ⟨by rw [kwK_length]; exact hz, beq_eq_false_iff_ne.mpr (Nat.ne_of_gt big), kwK kw, kv_kwK rk, kw_dict hn' D⟩
    have un : Un (frs outer) [] H (upd H s.heap.objs.size (.dK (kwK l))) s.heap h' := Un.laid kp (Nat.le_refl _) hnn
    have e1 : Env0 P w K mg base A outer { s with heap := h', toks := s.toks + kw.length } (upd H s.heap.objs.size (.dK (kwK l))) := env0_keep e0 kp hsz (Nat.le_refl _) new
    exact h _ _ [x, V.ref s.heap.objs.size] [u, Value.ref s.heap.objs.size] e1 un rfl (fun e s' => hCX outer s H _ _ E e s' un kp rfl) (.cons rx (.cons rfl .nil)) rfl ⟨_, hnn, rfl, rfl⟩
  · subst ex eH
    exact hbody A outer s2 _ _ Q E hr' (hq d hdn)
end

/-- a new instance of C by its __init__ with keywords -/
def InsQ (C : Addr) (sp : SpK) (vs : List V) (l : List (Str × V)) (H : Hp) (Q : VK) (E : XK) : Prop := ∀ x dx, H x = none → H dx = none → dx ≠ x →
  sp (.ref x :: vs) l (upd (upd H dx (.own x)) x (.ins C dx [])) (fun v H3 => v = .non ∧ Q (.ref x) H3) E
section
variable {X : Cx} {CX : CXT} {k n : Nat} {f C : Addr} {ks : List Str} {sp : SpK} {E : XK} {x : Str} {p pos kp : Pos} {e : Expr} {es : List Expr} {kws : List Keyword} {tf te : TE} {t tk : TA}
theorem run_newK {pins : List (Addr × Obj)} {σ : L2.St} {H : Hp} {s : Shared} {Q : VK} {us : List Value} {kw : List (Str × Value)} {vs : List V} {l : List (Str × V)} (M : Mk X.K C f) (F : FnK X.prog X.w X.K X.mg X.base CX k f sp) (hr : Room (k + 1) X.A)
    (hx : Passes CX X E) (I : Inv X pins σ H s) (r : Vals vs us) (rz : KV l kw) (hn : (l.map (·.1)).Nodup) (h : InsQ C sp vs l H Q E) :
    wpAny (model X.prog X.w) X.A (call (.ref C) us kw) (EP X pins σ Q) X.xe s := by
  have hq := h (s.heap.objs.size + 1) s.heap.objs.size (I.hok.fresh (Nat.le_succ _)) (I.hok.fresh (Nat.le_refl _)) (Nat.ne_of_lt (Nat.lt_succ_self _))
  have I2 := Inv.made (C := C) I
  have r1 : Vals (V.ref (s.heap.objs.size + 1) :: vs) (Value.ref (s.heap.objs.size + 1) :: us) := .cons rfl r
  refine wpAny_call (make_map (f := f) I.kIn M.makes M.init (beq_iff_eq.mp M.fn) (codeAny_mono (F _ X.stack _ _ (Value.ref (s.heap.objs.size + 1) :: us) kw _ _ _ E (hr.make C us kw)
    (I2.env0.make C us kw) r1 rz hn hq) fun r s' hq' => ?_))
  cases r with
  | error e => exact hx pins σ _ _ e s' I2 hq'
  | ok fl =>
    cases fl with
    | ret u =>
      obtain ⟨v, H', I3, rv, ev, q3⟩ := I2.after hq'
      subst ev
      exact ⟨rv, ⟨V.ref (s.heap.objs.size + 1), H', I3, rfl, q3⟩⟩
    | next => exact False.elim hq'
    | brk => exact False.elim hq'
    | cont => exact False.elim hq'
/-- C(**e), the callee a name -/
def tNewS (C : Addr) (sp : SpK) (E : XK) (tf te : TE) : TE := fun σ H Q => tf σ H fun y H1 => y = .ref C ∧ te σ H1 fun z H2 => ∃ a l, z = .ref a ∧ H2 a = some (.dK (kwK l)) ∧ InsQ C sp [] l H2 Q E
theorem pe_newS (hc : PE X (.Name x p) tf) (M : Mk X.K C f) (F : FnK X.prog X.w X.K X.mg X.base CX k f sp) (hr : Room (k + 1) X.A) (hx : Passes CX X E) (he : PE X e te) :
    PE X (.Call (.Name x p) [] [⟨none, e, kp⟩] pos) (tNewS C sp E tf te) := by
  refine ⟨fun pins s σ H Q I h => ?_⟩
  refine wpAny_Call_Name_kw (thn (hc.run pins s σ H _ I h) fun u s1 ⟨y, H1, I1, ry, ey, q⟩ => ?_)
  subst ey
  obtain rfl : u = Value.ref C := ry
  refine call_kk M.kp ?_
  have hb : X.base.get? s1.heap.objs.size = none := by
    cases e : X.base.get? s1.heap.objs.size with
    | none => rfl
    | some o => exact absurd (Heap.lt_size (I1.bs _ o e).1) (Nat.lt_irrefl _)
  have I2 : Inv X ((s1.heap.objs.size, emptyDict) :: pins) σ H1 { s1 with heap := s1.heap.push emptyDict } := by
    have I1' := I1.kept (h' := s1.heap.push emptyDict) (t' := s1.toks) fun _ _ z => Heap.get?_push_of_some _ z
    refine I1'.pins_of fun q hq => ?_
    rcases List.mem_cons.mp hq with e | e
    · subst e
      exact ⟨Heap.get?_push_size _ rfl, I1.hok.fresh (Nat.le_refl _), Nat.ne_of_gt I1.lt, I1.nofs (Nat.le_refl _), fun v z => nomatch z⟩
    · exact I1'.pin q (List.mem_append_right _ e)
  refine thn (he.run _ _ σ H1 _ I2 q) fun u s3 ⟨z, H3, I3, rz, a, l, ez, ha, hq⟩ => ?_
  subst ez
  obtain rfl : u = Value.ref a := rz
  have hD := I3.pin (s1.heap.objs.size, emptyDict) (List.mem_append_right _ List.mem_cons_self)
  obtain ⟨hz, hS, vs, rk, hO⟩ := I3.hok a _ ha
  obtain ⟨kw, ek, rk'⟩ := kwK_inv rk
  subst ek
  obtain ⟨_, _, _, _, _, _, _, _, hnd⟩ := id hO
  have hnl : (l.map (·.1)).Nodup := kwK_nodup (by rw [KV.keys rk]; exact hnd)
  have hne : s1.heap.objs.size ≠ a := fun e => by
    have := hD.2.1
    rw [show (s1.heap.objs.size, emptyDict).1 = a from e, ha] at this
    cases this
  refine ⟨a, kw, rfl, hne, hS, hD.1, hO, by rw [← rk'.length, ← kwK_length l]; exact hz, fun h' hd' sb => ?_⟩
  have sz3 : X.s_0.heap.objs.size ≤ s1.heap.objs.size := I1.sz
  have I4 : Inv X pins σ H3 { s3 with heap := h' } := by
    have I3' : Inv X pins σ H3 s3 := I3.pins_of fun q hq => I3.pin q (List.mem_append_right _ (List.mem_cons_of_mem _ hq))
    refine I3'.turned (t' := s3.toks) (fun b o hb z => (sb.2 b hb).trans z) hD.2.1 hD.2.2.1 (.inr sz3) (fun y c ec z => ?_) fun q hq z => ?_
    · obtain ⟨v, o, ho, hd⟩ := I3.cell y c ec
      rw [z, hD.1] at ho
      cases ho
      cases hd
    · have lt : q.1 < s1.heap.objs.size := Heap.lt_size (I1.pin q hq).1
      exact absurd z (Nat.ne_of_lt lt)
  exact ⟨I4.kIn, run_newK M F hr hx I4 .nil rk' hnl hq⟩
/-- C(), C(k = v, ..): keywords alone -/
def tNewK (C : Addr) (ks : List Str) (sp : SpK) (E : XK) (tk : TA) : TE := fun σ H Q => tk σ H fun zs H1 => zs.length = ks.length ∧ InsQ C sp [] (ks.zip zs) H1 Q E
theorem kv_zip : ∀ {ks : List Str} {zs : List V} {ws : List Value}, Vals zs ws → KV (ks.zip zs) (ks.zip ws)
  | [], _, _, _ => by simp only [List.zip_nil_left]; exact .nil
  | k :: ks, [], _, .nil => by simp only [List.zip_nil_right]; exact .nil
  | k :: ks, z :: zs, w :: ws, .cons h t => .cons ⟨rfl, h⟩ (kv_zip t)
theorem pe_newK (hg : Gl X x) (hm : X.mg x = some (.ref C)) (M : Mk X.K C f) (F : FnK X.prog X.w X.K X.mg X.base CX k f sp) (hr : Room (k + 1) X.A) (hx : Passes CX X E) (hkw : PK X kws tk) (hnd : ks.Nodup)
    (hall : (backToKw pos (keywordEach kws X.env)).all (·.1.isSome) = true := by rfl) (hks : (backToKw pos (keywordEach kws X.env)).filterMap (·.1) = ks := by rfl)
    (hdb : (x == ("__debug__" : Str)) = false := by decide) (hpl : ((backTo pos (starEach [] X.env)).any (·.1) || (backToKw pos (keywordEach kws X.env)).any (·.1.isNone)) = false := by rfl) :
    PE X (.Call (.Name x p) [] kws pos) (tNewK C ks sp E tk) := by
  refine ⟨fun pins s σ H Q I h => ?_⟩
  refine wpAny_Call_Name_kw (ld_glob I hg hm ?_ hdb)
  refine PySem.W.callWith_KW0 (h₀ := X.base) I.ok.mod.kin M.kp hall (thn (hkw.run pos pins s σ H _ I h) fun ws s2 ⟨zs, H2, I2, rz, l2, q2⟩ => ⟨I2.kIn, ?_⟩) hpl
  rw [hks]
  refine run_newK M F hr hx I2 .nil (kv_zip rz) ?_ q2
  rw [List.map_fst_zip (by rw [l2]; exact Nat.le_refl _)]
  exact hnd
end
end KwX

/-! a class's own len, bool, in, x[i], ==, !=, repr, str, f-strings -/
namespace KwX
open PySem PySem.Spec PySem.Calls PyProof.Rows L2 StX
structure OwnD (K : PySem.W.Frag) (C : Addr) (nm : Str) (f : Addr) : Prop where
  fi : PySem.W.findIn K (.ref C) nm = some (some (.ref f))
  fn : PySem.W.isFn K (.ref f) = true
def InsAt (H : Hp) (a C : Addr) : Prop := ∃ dx fs, H a = some (.ins C dx fs)
section
variable {X : Cx} {CX : CXT} {k n : Nat} {f C a : Addr} {sp : Sp} {E : XK} {pins : List (Addr × Obj)} {σ : L2.St} {H : Hp} {s : Shared} {Q : VK}
theorem inst_of (I : Inv X pins σ H s) (h : InsAt H a C) : ∃ ox od, PySem.W.InstAt s.heap a ox C od := by
  obtain ⟨dx, fs, ha⟩ := h
  obtain ⟨mA, J, _⟩ := ins_get I.hok ha
  obtain ⟨od, J, _⟩ := J.look
  exact ⟨_, _, J⟩
theorem run_at {A' : Around} {us : List Value} {vs : List V} (sb : Sub X n A') (F : FnR X.prog X.w X.K X.mg X.base CX n f sp) (hx : Passes CX X E) (I : Inv X pins σ H s) (r : Vals vs us) (h : sp vs H Q E) :
    wpAny (model X.prog X.w) A' (call (.ref f) us) (EP X pins σ Q) X.xe s := by
  have e0 : Env0 X.prog X.w X.K X.mg X.base A' X.stack s H := by
    have e := I.env0
    exact ⟨by rw [sb.fr]; exact e.frames, e.mod, e.bs, e.bsz, e.funs, e.frf, e.hok, e.bare⟩
  refine wpAny_call (codeAny_mono (F A' X.stack s H us vs Q E sb.room e0 r h) fun r s' hq => ?_)
  cases r with
  | error e => exact hx pins σ H s e s' I hq
  | ok fl =>
    cases fl with
    | ret u => exact I.after hq
    | next => exact False.elim hq
    | brk => exact False.elim hq
    | cont => exact False.elim hq
theorem sub0 (hr : Room n X.A) : Sub X n X.A := ⟨hr, rfl⟩
theorem sub1 (hr : Room (n + 1) X.A) : Sub X n X.A.in1 := (sub0 hr).in1
/-- len(o) -/
def rLenO (C : Addr) (sp : Sp) (E : XK) : List V → Hp → VK → Prop := fun xs H Q => ∃ a, xs = [.ref a] ∧ InsAt H a C ∧ sp [.ref a] H (fun v H' => ∃ i, v = .int i ∧ 0 ≤ i ∧ i < 2 ^ 63 ∧ Q (.int i) H') E
theorem call_lenO (O : OwnD X.K C "__len__" f) (F : FnR X.prog X.w X.K X.mg X.base CX n f sp) (hr : Room (n + 1) X.A) (hx : Passes CX X E) : CallR X (.builtin "len") (rLenO C sp E) := by
  intro pins s σ H xs us Q I r h
  obtain ⟨a, rfl, ha, hs⟩ := h
  obtain ⟨u, rfl, ru⟩ := vals1 r
  obtain rfl : u = Value.ref a := ru
  obtain ⟨ox, od, J⟩ := inst_of I ha
  obtain ⟨m, hF⟩ := I.fr
  refine PySem.W.len_K hF I.ok.mod.kin J O.fi O.fn (thn (run_at (sub1 hr) (us := [.ref a]) (vs := [.ref a]) F hx I (.cons rfl .nil) hs) fun v s' hv => ?_)
  obtain ⟨x, H', I', rx, i, rfl, h0, h1, q⟩ := hv
  obtain ⟨t, rfl⟩ := rx
  exact ⟨⟨h0, h1⟩, .int i, H', I'.tok _, ⟨_, rfl⟩, q⟩
/-- repr(o) -/
def rStrO (C : Addr) (sp : Sp) (E : XK) : List V → Hp → VK → Prop := fun xs H Q => ∃ a, xs = [.ref a] ∧ InsAt H a C ∧ sp [.ref a] H (fun v H' => ∃ y, v = .str y ∧ Q (.str y) H') E
theorem call_reprO (O : OwnD X.K C "__repr__" f) (F : FnR X.prog X.w X.K X.mg X.base CX n f sp) (hr : Room (n + 1) X.A) (hx : Passes CX X E) : CallR X (.builtin "repr") (rStrO C sp E) := by
  intro pins s σ H xs us Q I r h
  obtain ⟨a, rfl, ha, hs⟩ := h
  obtain ⟨u, rfl, ru⟩ := vals1 r
  obtain rfl : u = Value.ref a := ru
  obtain ⟨ox, od, J⟩ := inst_of I ha
  obtain ⟨m, hF⟩ := I.fr
  refine PySem.W.repr_K (sub1 hr).room.units0 hF I.ok.mod.kin J O.fi O.fn (thn (run_at (sub1 hr) (us := [.ref a]) (vs := [.ref a]) F hx I (.cons rfl .nil) hs) fun v s' hv => ?_)
  obtain ⟨x, H', I', rx, y, rfl, q⟩ := hv
  obtain ⟨t, rfl⟩ := rx
  exact ⟨.str y, H', I', ⟨_, rfl⟩, q⟩
/-- str(o) -/
theorem call_strO (O : OwnD X.K C "__str__" f) (F : FnR X.prog X.w X.K X.mg X.base CX n f sp) (hr : Room (n + 2) X.A) (hx : Passes CX X E) : CallR X (.type "str") (rStrO C sp E) := by
  intro pins s σ H xs us Q I r h
  obtain ⟨a, rfl, ha, hs⟩ := h
  obtain ⟨u, rfl, ru⟩ := vals1 r
  obtain rfl : u = Value.ref a := ru
  obtain ⟨ox, od, J⟩ := inst_of I ha
  have sb : Sub X n X.A.in1.in1 := (sub1 (n := n + 1) hr).in1
  refine PySem.W.kso_call sb.room.units0 I.kIn J O.fi O.fn (thn (run_at sb (us := [.ref a]) (vs := [.ref a]) F hx I (.cons rfl .nil) hs) fun v s' hv => ?_)
  obtain ⟨x, H', I', rx, y, rfl, q⟩ := hv
  obtain ⟨t, rfl⟩ := rx
  exact ⟨.str y, H', I', ⟨_, rfl⟩, q⟩
/-- {o} in an f-string, o with an own __str__ -/
def tFmtO (C : Addr) (sp : Sp) (E : XK) (te : TE) : TE := fun σ H Q => te σ H fun x H1 => rStrO C sp E [x] H1 Q
theorem pe_fmtO {e : Expr} {te : TE} {pos : Pos} (he : PE X e te) (O : OwnD X.K C "__str__" f) (hfm : PySem.W.findIn X.K (.ref C) "__format__" = some (some (.builtin "object.__format__"))) (hm : PySem.W.mroIn X.K C (.type "object") = some true)
    (F : FnR X.prog X.w X.K X.mg X.base CX n f sp) (hr : Room (n + 1) X.A) (hx : Passes CX X E) : PE X (.FormattedValue e (-1) none pos) (tFmtO C sp E te) := by
  refine ⟨fun pins s σ H Q I h => ?_⟩
  refine wpAny_FormattedValue_plain (thn (he.run pins s σ H _ I h) fun v s1 hv => ?_)
  obtain ⟨x, H1, I1, r1, a, ex, ha, hs⟩ := hv
  cases ex
  obtain rfl : v = Value.ref a := r1
  obtain ⟨ox, od, J⟩ := inst_of I1 ha
  refine PySem.W.kfo_fieldS (sub1 hr).room.units0 I1.kIn J hfm hm O.fi O.fn (thn (run_at (sub1 hr) (us := [.ref a]) (vs := [.ref a]) F hx (I1.tok _) (.cons rfl .nil) hs) fun v s' hv => ?_)
  obtain ⟨x, H', I', rx, y, rfl, q⟩ := hv
  obtain ⟨t, rfl⟩ := rx
  exact ⟨.str y, H', I', ⟨_, rfl⟩, q⟩
/-- x in o -/
def rInO (C : Addr) (sp : Sp) (E : XK) : R2 := fun x y H Q => ∃ a, y = .ref a ∧ InsAt H a C ∧ sp [.ref a, x] H (fun v H' => ∃ b, v = .bl b ∧ Q (.bl b) H') E
theorem op_inO (O : OwnD X.K C "__contains__" f) (F : FnR X.prog X.w X.K X.mg X.base CX n f sp) (hr : Room n X.A) (hx : Passes CX X E) : OpR X (compareOp .In) (rInO C sp E) := by
  intro pins s σ H x y v u Q I rx ry h
  obtain ⟨a, rfl, ha, hs⟩ := h
  obtain rfl : u = Value.ref a := ry
  obtain ⟨ox, od, J⟩ := inst_of I ha
  obtain ⟨m, hF⟩ := I.fr
  refine PySem.W.in_K hF I.ok.mod.kin J O.fi O.fn (thn (run_at (sub0 hr) (us := [.ref a, v]) (vs := [.ref a, x]) F hx I (.cons rfl (.cons rx .nil)) hs) fun v s' hv => ?_)
  obtain ⟨z, H', I', rz, b, rfl, q⟩ := hv
  obtain rfl := rz
  exact wpAny_truthy_bool ⟨.bl b, H', I', rfl, q⟩
/-- o[x] -/
def rIxO (C : Addr) (sp : Sp) (E : XK) : R2 := fun x y H Q => ∃ a, x = .ref a ∧ InsAt H a C ∧ sp [.ref a, y] H Q E
theorem ix_own (O : OwnD X.K C "__getitem__" f) (hf : PySem.W.fnIn X.K f = true) (F : FnR X.prog X.w X.K X.mg X.base CX n f sp) (hr : Room (n + 1) X.A) (hx : Passes CX X E) {a b : Expr} {ta tb : TE} {pos : Pos} (ha : PE X a ta) (hb : PE X b tb)
    (hsl : ∀ o i, subscripted b true o i = runValue (.builtin "lifetime.subscript" ⟨[o, i], []⟩)) : PE X (.Subscript a b pos) (tOp (rIxO C sp E) ta tb) := by
  refine ⟨fun pins s σ H Q I h => ?_⟩
  refine Subscript_ (binT ha hb I h fun v u s2 x y H2 I2 rx ry q => ?_)
  obtain ⟨a', rfl, hi, hs⟩ := q
  obtain rfl : v = Value.ref a' := rx
  obtain ⟨ox, od, J⟩ := inst_of I2 hi
  obtain ⟨m, hF⟩ := I2.fr
  exact PySem.W.sub_K hF I2.ok.mod.kin J O.fi hf O.fn (run_at (sub1 hr) (us := [.ref a', u]) (vs := [.ref a', y]) F hx I2 (.cons rfl (.cons ry .nil)) hs) (hsl _ _)
/-- o == y -/
def rEqO (K : PySem.W.Frag) (C : Addr) (sp : Sp) (E : XK) : R2 := fun x y H Q => ∃ a t, x = .ref a ∧ InsAt H a C ∧ TyX K H y t ∧ PySem.W.notFirst K C t = true ∧ sp [.ref a, y] H (fun v H' => ∃ b, v = .bl b ∧ Q (.bl b) H') E
theorem op_eqO (O : OwnD X.K C "__eq__" f) (F : FnR X.prog X.w X.K X.mg X.base CX n f sp) (hr : Room n X.A) (hx : Passes CX X E) : OpR X (compareOp .Eq) (rEqO X.K C sp E) := by
  intro pins s σ H x y v u Q I rx ry h
  obtain ⟨a, t, rfl, ha, hty, hn, hs⟩ := h
  obtain rfl : v = Value.ref a := rx
  obtain ⟨ox, od, J⟩ := inst_of I ha
  obtain ⟨m, hF⟩ := I.fr
  obtain ⟨P, Z, hP, _⟩ := kit_of I ry hty
  show wpAny (model X.prog X.w) X.A (richCompare .Eq (.ref a) u) (EP X pins σ Q) X.xe s
  refine PySem.W.cmp_K (op := .Eq) hr.units0 hF I.ok.mod.kin J (Z.ty _ _ I.kIn hP) hn O.fi O.fn (thn (run_at (sub0 hr) (us := [.ref a, u]) (vs := [.ref a, y]) F hx I (.cons rfl (.cons ry .nil)) hs) fun z s' hv => ?_)
  obtain ⟨x, H', I', rz, b, rfl, q⟩ := hv
  obtain rfl := rz
  exact ⟨.bl b, H', I', rfl, q⟩
/-- o != y: by the own ==, turned -/
def rNeO (K : PySem.W.Frag) (C : Addr) (sp : Sp) (E : XK) : R2 := fun x y H Q => ∃ a t, x = .ref a ∧ InsAt H a C ∧ TyX K H y t ∧ PySem.W.notFirst K C t = true ∧ sp [.ref a, y] H (fun v H' => ∃ b, v = .bl b ∧ Q (.bl (!b)) H') E
theorem ifBound_B {M : Model} {A : Around} {E : Value → Shared → Prop} {s : Shared} {K : PySem.W.Frag} {x C : Addr} {ox : Obj} {od : Option Obj} {name : Str} {id : String} {args : List Value} {Q : Option Value → Shared → Prop} (X : K.In s.heap) (I : PySem.W.InstAt s.heap x ox C od)
    (hs : PySem.W.findIn K (.ref C) name = some (some (.builtin id))) (hb : ∀ self, bindSpecial (.builtin id) self = pure (.builtin id, [self]))
    (h : wpAny M A (call (.builtin id) (.ref x :: args)) (fun v => Q (some v)) E s) : wpAny M A (callSpecialIfBound? (.ref x) name args) Q E s := by
  simp only [callSpecialIfBound?, bindSpecialIfBound?]
  refine wpAny_holding (wpAny_bind (wpAny_bind (wpAny_bind (I.type.here ((PySem.W.looks_findIn X hs).here ?_)))))
  refine wpAny_bind (wpAny_askSetting (wpAny_ite ?_))
  have fin : wpAny M A (call (.builtin id) ([.ref x] ++ args) >>= fun v => pure (some v)) Q E s := wpAny_bind (wpAny_mono h (fun v s' h' => wpAny_pure h') fun _ _ h' => h')
  split
  · exact wpAny_bind ((PySem.W.Looks.of_pure (hb _)).here (wpAny_pure (by exact fin)))
  · exact wpAny_tryCatch (wpAny_bind ((PySem.W.Looks.of_pure (hb _)).here (wpAny_pure (by exact fin))))
theorem ne_call {prog : Program} {w : World} {A : Around} {E : Value → Shared → Prop} {s : Shared} {K : PySem.W.Frag} {x C f : Addr} {ox : Obj} {od : Option Obj} {b : Value} {Q : Value → Shared → Prop} (hu : A.in1.units < cLine) (X : K.In s.heap) (I : PySem.W.InstAt s.heap x ox C od)
    (hm : PySem.W.mroIn K C (.type "object") = some true) (hs : PySem.W.findIn K (.ref C) "__eq__" = some (some (.ref f))) (hf : PySem.W.isFn K (.ref f) = true)
    (h : wpAny (model prog w) A.in1 (call (.ref f) [.ref x, b]) (fun v s' => ∃ k, v = .bool k ∧ Q (.bool (!k)) s') E s) : wpAny (model prog w) A (call (.builtin "object.__ne__") [.ref x, b]) Q E s := by
  refine wpAny_call (codeAny_call_builtin PySem.F.slot_object_ne.plain PySem.F.entry_object_ne (PySem.W.check_slot (i := "object.__ne__") (owner := "object") (n := "__ne__") (by decide +kernel) (by decide +kernel) (I.type.andThen (PySem.W.looks_mroIn X hm)) (PySem.F.args_object_ne_2 _ _) ?_))
  unfold Builtin.«object.__ne__»
  refine wpAny_bind (wpAny_pure ?_)
  refine wpAny_bind (m := cRoomFor _ _) (wpAny_cRoomFor hu ?_)
  refine wpAny_bind (m := callSpecialIfBound? (.ref x) (Str.ofString "__eq__") _) (PySem.W.ifBound_K X I hs hf (wpAny_mono h (fun r s' hq => ?_) fun _ _ y => y))
  obtain ⟨k, rfl, q⟩ := hq
  exact wpAny_bind (wpAny_truthy_bool (wpAny_pure q))
theorem op_neO (O : OwnD X.K C "__eq__" f) (hne : PySem.W.findIn X.K (.ref C) "__ne__" = some (some (.builtin "object.__ne__"))) (hm : PySem.W.mroIn X.K C (.type "object") = some true) (F : FnR X.prog X.w X.K X.mg X.base CX n f sp) (hr : Room (n + 1) X.A) (hx : Passes CX X E) :
    OpR X (compareOp .NotEq) (rNeO X.K C sp E) := by
  intro pins s σ H x y v u Q I rx ry h
  obtain ⟨a, t, rfl, ha, hty, hn, hs⟩ := h
  obtain rfl : v = Value.ref a := rx
  obtain ⟨ox, od, J⟩ := inst_of I ha
  obtain ⟨P, Z, hP, _⟩ := kit_of I ry hty
  have one : wpAny (model X.prog X.w) X.A (tryCompare (.ref a) (cmpInfo .NotEq).2.1 u) (fun r s' => ∃ v, r = some v ∧ EP X pins σ Q v s') X.xe s := by
    unfold tryCompare
    refine wpAny_bind (ifBound_B I.kIn J hne PySem.F.slot_object_ne.bind (ne_call (sub1 hr).room.units0 I.kIn J hm O.fi O.fn (thn (run_at (sub1 hr) (us := [.ref a, u]) (vs := [.ref a, y]) F hx I (.cons rfl (.cons ry .nil)) hs) fun z s' hv => ?_)))
    obtain ⟨x, H', I', rz, b, rfl, q⟩ := hv
    obtain rfl := rz
    exact ⟨b, rfl, wpAny_pure ⟨_, rfl, .bl (!b), H', I', rfl, q⟩⟩
  show wpAny (model X.prog X.w) X.A (richCompare .NotEq (.ref a) u) (EP X pins σ Q) X.xe s
  unfold richCompare
  simp only [oneThing_ref]
  refine wpAny_holding (wpAny_bind (wpAny_cRoomFor hr.units0 ?_))
  refine wpAny_bind (J.type.here (wpAny_bind ((Z.ty _ _ I.kIn hP).here ?_)))
  split
  · rename_i q
    have e : PySem.W.subIn X.K t (.ref C) = some false := by
      rcases Bool.or_eq_true_iff.mp hn with e | e
      · rw [beq_iff_eq.mp e] at q; simp at q
      · exact beq_iff_eq.mp e
    refine wpAny_bind ((PySem.W.looks_subIn I.kIn e).here ?_)
    simp only [Bool.false_eq_true, if_false]
    refine wpAny_bind (wpAny_mono one (fun r s' z => ?_) fun _ _ e => e)
    obtain ⟨v, rfl, hq⟩ := z
    exact wpAny_pure hq
  · refine wpAny_bind (wpAny_pure ?_)
    simp only [Bool.false_eq_true, if_false]
    refine wpAny_bind (wpAny_mono one (fun r s' z => ?_) fun _ _ e => e)
    obtain ⟨v, rfl, hq⟩ := z
    exact wpAny_pure hq
end
end KwX

/-! try: body / except (A, B) as n: suite, where the error is kept: behind the suite the error's object is known -/
namespace KwX
open PySem PySem.Spec PySem.Calls PyProof.Rows L2 StX
/-- an error that was caught: its class, its own dict -/
def Caught (cls : Value) (d : Option Addr) (a : Addr) : HO := .ext fun h => ∃ oe vs, h.get? a = some oe ∧ Zc cls d oe ∧ oe.data = .fields vs
theorem caught_ok {P : Program} {w : World} {H : Hp} {h : Heap} {cls : Value} {d : Option Addr} {a : Addr} {oe : Obj} {vs : Array Value} (e : h.get? a = some oe) (z : Zc cls d oe) (f : oe.data = .fields vs) : ObjOk P w H h a (Caught cls d a) :=
  ⟨⟨oe, vs, e, z, f⟩, ⟨oe, e⟩, fun h1 h2 q st => by
    obtain ⟨o1, v1, e1, z1, f1⟩ := q
    exact ⟨o1, v1, st _ e1, z1, f1⟩⟩
section
variable {X : Cx} {pins : List (Addr × Obj)} {σ : L2.St} {H : Hp} {s : Shared}
/-- a pinned object that was not there at the frame's start is tracked from now on -/
theorem track {a : Addr} {o : Obj} {u : HO} (I : Inv X ((a, o) :: pins) σ H s) (h0 : X.s_0.heap.get? a = none) (hc : ∀ y c, X.env.cells.lookup y = some c → c ≠ a) (hp : ∀ p ∈ X.pn ++ pins, p.1 ≠ a) (new : ObjOk X.prog X.w (upd H a u) s.heap a u) :
    Inv X pins σ (upd H a u) s := by
  obtain ⟨ho, hn, hL, hF, hv⟩ := I.pin (a, o) (List.mem_append_right _ List.mem_cons_self)
  have old : ∀ b v, H b = some v → upd H a u b = some v := fun b v q => by
    rw [upd_ne (fun z => by rw [z, show H a = none from hn] at q; cases q)]
    exact q
  refine ⟨I.ok, I.os, I.bare, ⟨I.base.keep, I.base.slot, fun b v q n hx => ?_, I.base.there, fun b xs q => old _ _ (I.base.tups b xs q), fun b v w q => old _ _ (I.base.frzs b v w q), fun b ps q => ?_⟩, I.loc, I.cell, ?_, fun y c q => ?_, fun p q => ?_, fun b v q => ?_, I.len⟩
  · rw [upd_ne (fun z => by rw [z, h0] at q; cases q)]
    exact I.base.free b v q n hx
  · obtain ⟨more, e⟩ := I.base.tbls b ps q
    exact ⟨more, old _ _ e⟩
  · rw [upd_ne (Ne.symm hL)]
    exact I.free
  · rw [upd_ne (hc y c q)]
    exact I.freeC y c q
  · have q' : p ∈ X.pn ++ ((a, o) :: pins) := by
      rcases List.mem_append.mp q with z | z
      · exact List.mem_append_left _ z
      · exact List.mem_append_right _ (List.mem_cons_of_mem _ z)
    obtain ⟨p1, p2, p3⟩ := I.pin p q'
    exact ⟨p1, by rw [upd_ne (hp p q)]; exact p2, p3⟩
  · by_cases e : b = a
    · subst e
      rw [upd_same] at q
      cases q
      exact new
    · rw [upd_ne e] at q
      refine (I.hok b v q).stay (fun _ _ _ z => z) (fun c z => old _ _ z) fun c xs z => old _ _ z
end
/-- what the clause 'except (A, B) as n' wishes of an error of the body -/
def endsKept (D : Ends) (i : Nat) (cls : Value) (d : Option Addr) (a : Addr) : Ends where
  nx := fun σ' H' => H' a = none → D.nx (σ'.set i none) (upd H' a (Caught cls d a))
  rt := fun v H' => H' a = none → D.rt v (upd H' a (Caught cls d a))
  bk := fun σ' H' => H' a = none → D.bk (σ'.set i none) (upd H' a (Caught cls d a))
  ct := fun σ' H' => H' a = none → D.ct (σ'.set i none) (upd H' a (Caught cls d a))
def wKeep (K : PySem.W.Frag) (cs : List Value) (i : Nat) (ts : Addr → Value → Option Addr → TS) (Wout : WX) (D : Ends) : WX := fun cls d σ H =>
  ∃ b, PySem.W.exmAny K cls cs = some b ∧ (b = true → ∀ a, H a = none → ts a cls d (endsKept D i cls d a) (σ.set i (some (.ref a))) H) ∧ (b = false → Wout cls d σ H)
theorem flying_push {B : Heap} {l : List Env} {a : Addr} {Z : Obj → Prop} {h : Heap} (f : HandSPX.FlyingZ B l a Z h) (o : Obj) : HandSPX.FlyingZ B l a Z (h.push o) := by
  obtain ⟨f1, f2, f3, oe, vs, T, oT, ts, e1, z, e2, e3, e4, e5, e6, e7, e8⟩ := f
  refine ⟨fun b x q => Heap.get?_push_of_some _ (f1 b x q), f2, Heap.FunFrames.of_keeps (fun b x q _ => ⟨x, Heap.get?_push_of_some _ q, rfl⟩) f3, oe, vs, T, oT, ts, Heap.get?_push_of_some _ e1, z, e2, e3, e4, e5, Heap.get?_push_of_some _ e6, e7, e8⟩
section
variable {X : Cx} {x1 x2 n : Str} {c1 c2 : Value} {i tk0 : Nat} {body suite : List Stmt} {b₀ : Stmt} {np1 np2 tpos pos pos' : Pos} {tb : WX → TS} {ts : Addr → Value → Option Addr → TS} {Wout : WX}
theorem ps_try_keep (hs : X.stack = X.env :: X.outer) (hf : X.env.frame = some X.env.locals) (hex : X.ex = []) (hN : X.N.Nodup) (hi : X.N[i]? = some n) (hln : X.env.kindOf n = some .local) (hc1 : Names X x1 c1) (hc2 : Names X x2 c2) (tk : Takes X Wout)
    (hb : ∀ (W : WX) (pn : List (Addr × Obj)) (xe : Value → Shared → Prop), Takes (X.tr pn xe) W → PassesOwn (model X.prog X.w) X.A X.env xe → PSs (X.tr pn xe) body (tb W))
    (hsu : ∀ (a : Addr) (oe : Obj) (cls : Value) (d : Option Addr) (pn : List (Addr × Obj)), Zc cls d oe → (∃ vs, oe.data = .fields vs) → PSs (X.suite a ((a, oe) :: pn)) (b₀ :: suite) (ts a cls d)) :
    PS X (.Try body [.ExceptHandler (some (.Tuple [.Name x1 np1, .Name x2 np2] tk0 tpos)) (some n) (b₀ :: suite) pos'] [] [] pos) (fun D σ H => tb (wKeep X.K [c1, c2] i ts Wout D) D σ H) := by
  constructor
  intro pins s σ H D I h
  have ok := I.ok
  have frames : X.A.frames = some (X.env :: X.outer) := ok.frames.trans (by rw [hs])
  have hloc : Loc X.env.scope n := .inl hln
  let clause : List ExceptHandler := [.ExceptHandler (some (.Tuple [.Name x1 np1, .Name x2 np2] tk0 tpos)) (some n) (b₀ :: suite) pos']
  let wish : Value → Shared → Prop := fun e s₁ => wpAny (model X.prog X.w) X.A (noteFrame e X.env) (fun _ s₂ => wpAny (model X.prog X.w) X.A (setFlight e none) (fun _ s₃ => wpAny (model X.prog X.w) X.A (handleBy e X.env clause) (SP X pins D) X.xe s₃) X.xe s₂) X.xe s₁
  have caught : Takes (X.tr (X.pn ++ pins) wish) (wKeep X.K [c1, c2] i ts Wout D) := by
    intro u s' xx
    obtain ⟨a, B, sI, pins', σ', H', cls, d, rfl, J', nb, up, sky, na, os, ag, b, hb1, hyes, hno⟩ := xx
    have J : Inv X pins σ' H' sI := J'.ofTry ok
    have sky' : Sky B (X.env :: X.outer) a (Zc cls d) X.env.locals s'.heap := hs ▸ sky
    show wpAny (model X.prog X.w) X.A (noteFrame (.ref a) X.env) _ _ _
    refine Sky.land Zc.steady frames hf sky' fun h3 fl3 up3 => ?_
    have J3 : Inv X pins σ' H' { s' with heap := h3 } := J.landed nb fl3.1 (up.trans up3) os ag
    obtain ⟨oe3, vs3, he3, hz3, hd3⟩ := fl3.there
    have apart : ∀ {h : Heap} {o : Obj} {vs : Array Value}, h.FunFrames B (X.env :: X.outer) → h.get? a = some o → o.data = .fields vs → a ∉ frs (X.env :: X.outer) := by
      intro h o vs ff e dd hm
      obtain ⟨_, o', e', hnf⟩ := ff.mem hm
      rw [e] at e'
      cases e'
      exact hnf _ dd
    have nfr := apart fl3.2.2.1 he3 hd3
    have nL : a ≠ X.env.locals := by
      intro z
      exact nfr (List.mem_filterMap.mpr ⟨X.env, List.mem_cons_self, by rw [hf, z]⟩)
    have nF : a ∉ X.fs := by
      intro hm
      obtain ⟨e, he, q⟩ := List.mem_filterMap.mp hm
      exact nfr (List.mem_filterMap.mpr ⟨e, List.mem_cons_of_mem _ he, q⟩)
    have Ba : B.get? a = none := fl3.2.1
    have nStk : a ∉ frs X.stack := by rw [hs]; exact nfr
    have sIa : sI.heap.get? a = none := by
      cases q : sI.heap.get? a with
      | none => rfl
      | some o =>
        have z := nb a o q nStk
        rw [Ba] at z
        cases z
    have s0a : X.s_0.heap.get? a = none := by
      cases q : X.s_0.heap.get? a with
      | none => rfl
      | some o =>
        obtain ⟨o', z⟩ := J.base.there a o q (by rw [hex]; simp)
        rw [sIa] at z
        cases z
    have notCell : ∀ y c, X.env.cells.lookup y = some c → c ≠ a := by
      intro y c e z
      obtain ⟨v, o, ho, hd⟩ := J.cell y c e
      rw [z, sIa] at ho
      cases ho
    have notPin : ∀ p ∈ X.pn ++ pins, p.1 ≠ a := by
      intro p hp z
      have q := (J.pin p hp).1
      rw [z, sIa] at q
      cases q
    have S3 := J3.suite he3 hd3 na nL nF
    refine wpAny_handleBy_cons (codeAny_handlers_test ?_) (by intro q; cases q)
    have name : ∀ {y : Str} {c : Value} {np : Pos} {Q : Value → Shared → Prop} {E : Value → Shared → Prop}, Names X y c → Q c { s' with heap := h3 } → wpAny (model X.prog X.w) (X.A.mark (some (.ref a))) (eval (.Name y np) X.env) Q E { s' with heap := h3 } := by
      intro y c np Q E hc q
      obtain ⟨hg, hdbg, hm | ⟨hm, hv, hnn⟩⟩ := hc
      · exact ld_glob (X := X.suite a ((a, oe3) :: (X.pn ++ pins))) S3 hg hm q hdbg
      · exact ld_blt (X := X.suite a ((a, oe3) :: (X.pn ++ pins))) S3 hg hm hv q hnn hdbg
    refine Tuple_ (spliced_more (name hc1 (spliced_more (name hc2 (spliced_none ?_)))))
    refine wpAny_newObj_type ?_
    let tup : Obj := { cls := .type "tuple", data := .seq [c1, c2].toArray }
    have fl4 : HandSPX.FlyingZ B (X.env :: X.outer) a (Zc cls d) (h3.push tup) := flying_push fl3 tup
    have up4 : h3.UpToSlots (h3.push tup) := Heap.UpToSlots.of_keeps fun _ _ q => Heap.get?_push_of_some _ q
    have J4 : Inv X pins σ' H' { s' with heap := h3.push tup } := J3.kept (t' := s'.toks) fun _ _ q => Heap.get?_push_of_some _ q
    have he4 : (h3.push tup).get? a = some oe3 := Heap.get?_push_of_some _ he3
    have LT : PySem.W.Looks (model X.prog X.w) (h3.push tup) (typeOf (.ref a)) cls := fun A Q E s k q => wpAny_typeOf_ref (k _ _ he4) (by rw [hz3.1]; exact q)
    have LM := PySem.W.exm_tup2 (M := model X.prog X.w) (tp := h3.objs.size) J4.kIn LT (Heap.get?_push_size _ rfl) hb1
    refine LM.here ?_
    cases b with
    | true =>
      refine codeAny_handlers_suite_as ?_
      refine HandSPX.lands_againZ fl4 fun h5 fl5 up5 => ?_
      have J5 : Inv X pins σ' H' { s' with heap := h5 } := J.landed nb fl5.1 (((up.trans up3).trans up4).trans up5) os ag
      obtain ⟨oe5, vs5, he5, hz5, hd5⟩ := fl5.there
      have S5 := J5.suite he5 hd5 na nL nF
      refine store_ok (X := X.suite a ((a, oe5) :: (X.pn ++ pins))) (v := .ref a) S5 hN hi hloc rfl (fun s6 S6 => ?_) (.inr hln)
      refine wpAny_mono ((hsu a oe5 cls d (X.pn ++ pins) hz5 ⟨_, hd5⟩).run [] s6 _ H' _ S6 (hyes rfl a na)) (fun f s7 hsp => ?_) (fun _ _ z => False.elim z)
      have last : ∀ {σ7 : L2.St} {H7 : Hp} {Q : Shared → Prop}, Inv (X.suite a ((a, oe5) :: (X.pn ++ pins))) [] σ7 H7 s7 → (H7 a = none → ∀ s8, Inv X pins (σ7.set i none) (upd H7 a (Caught cls d a)) s8 → Q s8) →
          wpAny (model X.prog X.w) X.A (do bindName X.env n .none; unbindBehindTheSuite X.env n pos') (fun _ s8 => Q s8) X.xe s7 := by
        intro σ7 H7 Q S7 hq
        have pa := S7.pin (a, oe5) (List.mem_append_left _ List.mem_cons_self)
        have U : Inv X ((a, oe5) :: pins) σ7 H7 s7 := by
          have U0 : Inv X pins σ7 H7 s7 := S7.unsuite ok
          refine U0.pins_of fun p hp => ?_
          rcases List.mem_cons.mp hp with e | e
          · subst e
            exact pa
          · exact U0.pin p (List.mem_append_right _ e)
        refine gone_ok U hN hi hln fun s8 J8 => hq pa.2.1 s8 ?_
        have p8 := J8.pin (a, oe5) (List.mem_append_right _ List.mem_cons_self)
        exact track J8 s0a notCell notPin (caught_ok p8.1 hz5 hd5)
      have pinA : ∀ {σ7 : L2.St} {H7 : Hp}, Inv (X.suite a ((a, oe5) :: (X.pn ++ pins))) [] σ7 H7 s7 → H7 a = none := fun S7 => (S7.pin (a, oe5) (List.mem_append_left _ List.mem_cons_self)).2.1
      cases f with
      | next =>
        obtain ⟨σ7, H7, S7, q7⟩ := hsp
        exact last S7 fun na s8 J8 => ⟨_, _, J8, q7 na⟩
      | brk =>
        obtain ⟨σ7, H7, S7, q7⟩ := hsp
        exact last S7 fun na s8 J8 => ⟨_, _, J8, q7 na⟩
      | cont =>
        obtain ⟨σ7, H7, S7, q7⟩ := hsp
        exact last S7 fun na s8 J8 => ⟨_, _, J8, q7 na⟩
      | ret u =>
        obtain ⟨v7, σ7, H7, S7, r7, q7⟩ := hsp
        exact last S7 fun na s8 J8 => ⟨_, _, _, J8, r7, q7 na⟩
    | false =>
      show wpAny _ X.A (handleBy (.ref a) X.env []) _ _ _
      refine wpAny_handleBy_nil ?_
      obtain ⟨k1, k2, k3, oe, vs, T, oT, ts', he, hz, hd, h1, hr⟩ := id fl4
      unfold PySem.passOn
      refine wpAny_bind (wpAny_field he hd h1 ?_)
      rw [if_neg (by simp)]
      have fin : wpAny (model X.prog X.w) X.A (setFlight (.ref a) X.env.frame) (fun _ s5 => wpAny (model X.prog X.w) X.A (throw (.ref a) : Sem Flow) (SP X pins D) X.xe s5) X.xe { s' with heap := h3.push tup } := by
        rw [hf]
        refine HandSPX.setFlight_upZ fl4 fun h5 hh5 up5 => wpAny_throw (tk _ _ ?_)
        exact ⟨a, B, sI, pins, σ', H', cls, d, rfl, J, nb, ((up.trans up3).trans up4).trans up5, .inr (.inr (by rw [hs]; exact hh5)), na, os, ag, hno rfl⟩
      first
        | exact wpAny_bind fin
        | exact wpAny_bind (wpAny_pure (wpAny_bind fin))
  refine wpAny_Try_except (wpAny_mono ((hb (wKeep X.K [c1, c2] i ts Wout D) (X.pn ++ pins) wish caught PassesOwn.looking).run [] s σ H D (I.toTry _) h) (fun f s1 hsp => ?_) (fun e s1 he => he))
  cases f with
  | next =>
    obtain ⟨σ', H', J', q⟩ := hsp
    exact wpAny_execs_nil ⟨σ', H', J'.ofTry ok, q⟩
  | brk =>
    obtain ⟨σ', H', J', q⟩ := hsp
    exact ⟨σ', H', J'.ofTry ok, q⟩
  | cont =>
    obtain ⟨σ', H', J', q⟩ := hsp
    exact ⟨σ', H', J'.ofTry ok, q⟩
  | ret u =>
    obtain ⟨v, σ', H', J', r, q⟩ := hsp
    exact ⟨v, σ', H', J'.ofTry ok, r, q⟩
end
end KwX

/-! sets of texts: set(list of texts), sorted(set) -/
namespace TsX
open PySem PySem.Spec PyProof.Rows L2 PySem.Froz
section
variable {P : Program} {w : World} {A : Around} {E : Value → Shared → Prop} {s : Shared} {h h' : Heap} {a : Addr} {l : List Str}
/-- the set of the texts l stands at a; it can be walked -/
def Txt (P : Program) (w : World) (h : Heap) (a : Addr) (l : List Str) : Prop :=
  ∃ D : SD, h.get? a = some (sObj "set" D) ∧ TxOk P w D l ∧ Ris D.2.2.place.toList ∧ (w.params.followText "set-order" = true ∨ D.2.2.led = true)
theorem Txt.at (x : Txt P w h a l) (k : ∀ o, h.get? a = some o → h'.get? a = some o) : Txt P w h' a l := by
  obtain ⟨D, e, r⟩ := x
  exact ⟨D, k _ e, r⟩
theorem tail_walk {ep : Nat} {es : Array (Int × Value)} {t : SetTable} {b : Bool} (r : Ris t.place.toList) : Ris (tailTx ep es t b).2.2.place.toList ∧ (tailTx ep es t b).2.2.led = t.led := by
  unfold tailTx
  split
  · exact ⟨relayAll_ris t es _, relayAll_led t es _⟩
  · exact ⟨r, rfl⟩
theorem add_walk {k : Int} {v : Value} {D : SD} (r : Ris D.2.2.place.toList) : Ris (addTx k v D).2.2.place.toList ∧ (addTx k v D).2.2.led = D.2.2.led := by
  have r1 := layNew_ris D.2.2 D.1 k v r
  have l1 := layNew_led D.2.2 D.1 k v
  unfold addTx
  by_cases c : (layNew D.2.2 D.1 k v).2.1.plain = true
  · rw [if_pos c]
    obtain ⟨x, y⟩ := tail_walk (ep := D.2.1) (es := (layNew D.2.2 D.1 k v).1) (b := (layNew D.2.2 D.1 k v).2.2.1) (t := { (layNew D.2.2 D.1 k v).2.1 with plain := false }) r1
    exact ⟨x, y.trans l1⟩
  · rw [if_neg c]
    obtain ⟨x, y⟩ := tail_walk (ep := D.2.1) (es := (layNew D.2.2 D.1 k v).1) (b := (layNew D.2.2 D.1 k v).2.2.1) r1
    exact ⟨x, y.trans l1⟩
/-- the members, the new one among them -/
def withT (l : List Str) (k : Str) : List Str := if k ∈ l then l else k :: l
theorem put_text {k : Str} {u : Tok} {Q : Bool → Shared → Prop} (x : Txt P w s.heap a l) (room : l.length + 1 < scanBound)
    (hQ : ∀ h' b, Heap.SameBut a s.heap h' → Txt P w h' a (withT l k) → Q b { s with heap := h' }) : wpAny (model P w) A (setAddHashed a (.str k u) (hashStr w k)) Q E s := by
  obtain ⟨D, ho, ok, ris, led⟩ := x
  by_cases hk : k ∈ l
  · have same : withT l k = l := if_pos hk
    rw [same] at hQ
    obtain ⟨es, ep, t⟩ := D
    have few : es.size < scanBound := by
      have e : es.size = l.length := ok.sz
      omega
    obtain ⟨e, he, hit⟩ := (ok.mem k).mp hk
    have there : ∃ j, List.findIdx? (fun e => (strKind P w).is k e.2) es.toList = some j := by
      cases q : List.findIdx? (fun e => (strKind P w).is k e.2) es.toList with
      | some j => exact ⟨j, rfl⟩
      | none =>
        have z := List.findIdx?_eq_none_iff.mp q e he
        rw [hit] at z
        cases z
    obtain ⟨j, hj⟩ := there
    unfold setAddHashed setAddHashedIn
    refine wpAny_holding (wpAny_bind (wpAny_setState_of ho rfl ok.fit ?_))
    dsimp only
    rw [byScan_of rfl few ok.el]
    simp only [↓reduceIte]
    unfold setAddByScan
    refine wpAny_bind (wpAny_bind (wpAny_rule (wpAny_bind (wpAny_setScan_of (knd := strKind P w) (k := k) (is_str k u) ho rfl ok.fit ok.el ?_))))
    rw [hj]
    exact wpAny_pure (wpAny_pure (hQ s.heap _ (Heap.SameBut.refl a s.heap) ⟨_, ho, ok, ris, led⟩))
  · have more : withT l k = k :: l := if_neg hk
    rw [more] at hQ
    refine add_x ho ok hk room (hQ _ _ (Heap.SameBut.update s.heap a _) ?_)
    obtain ⟨r1, l1⟩ := add_walk (k := hashStr w k) (v := .str k u) ris
    exact ⟨_, get_upd _ ho rfl, add_ok u ok, r1, led.imp id fun z => by rw [l1]; exact z⟩
/-- the members behind the texts xs, put in one by one -/
def allT (xs : List Str) : List Str := xs.foldl withT []
theorem withT_mem {l : List Str} {k x : Str} : x ∈ withT l k ↔ x ∈ l ∨ x = k := by
  unfold withT
  split
  · rename_i q
    exact ⟨.inl, fun z => z.elim id fun e => e ▸ q⟩
  · rw [List.mem_cons]
    exact Or.comm
theorem withT_nodup {l : List Str} {k : Str} (h : l.Nodup) : (withT l k).Nodup := by
  unfold withT
  split
  · exact h
  · rename_i q
    exact List.nodup_cons.mpr ⟨q, h⟩
theorem withT_len {l : List Str} {k : Str} : (withT l k).length ≤ l.length + 1 := by
  unfold withT
  split
  · omega
  · exact Nat.le_refl _
theorem fold_mem : ∀ (xs : List Str) (l : List Str) (x : Str), x ∈ xs.foldl withT l ↔ x ∈ l ∨ x ∈ xs
  | [], l, x => by simp
  | y :: xs, l, x => by
    rw [List.foldl_cons, fold_mem xs, withT_mem, List.mem_cons]
    exact or_assoc
theorem fold_nodup : ∀ (xs : List Str) (l : List Str), l.Nodup → (xs.foldl withT l).Nodup
  | [], _, h => h
  | y :: xs, l, h => fold_nodup xs _ (withT_nodup h)
theorem fold_len : ∀ (xs : List Str) (l : List Str), (xs.foldl withT l).length ≤ l.length + xs.length
  | [], l => Nat.le_refl _
  | y :: xs, l => by
    have a := fold_len xs (withT l y)
    have b := withT_len (l := l) (k := y)
    rw [List.foldl_cons, List.length_cons]
    omega
theorem allT_mem {xs : List Str} {x : Str} : x ∈ allT xs ↔ x ∈ xs := by
  unfold allT
  rw [fold_mem]
  simp
theorem allT_nodup (xs : List Str) : (allT xs).Nodup := fold_nodup xs [] List.nodup_nil
theorem allT_len (xs : List Str) : (allT xs).length ≤ xs.length := by
  have h := fold_len xs []
  simpa [allT] using h
theorem allT_snoc {xs : List Str} {i : Nat} {z : Str} (h : xs[i]? = some z) : allT (xs.take (i + 1)) = withT (allT (xs.take i)) z := by
  unfold allT
  rw [List.take_add_one, h, List.foldl_append]
  rfl
/-- the loop that puts what is walked into the set -/
theorem put_all {I : Addr} {fp wr : List Addr} {G : Array GenState → Array GenState → Prop} {n : Nat} {Pv : Nat → Value → Prop} {St : Nat → Shared → Prop} {R : Result → Shared → Prop}
    (W : WalksS P w A.in1 I fp wr G n Pv St) (S : Addr) (apart : S ∉ fp) (xs : List Str) (hn : n = xs.length) (few : xs.length + 1 < scanBound) (val : ∀ i v, Pv i v → ∃ k t, xs[i]? = some k ∧ v = .str k t) :
    ∀ (left i : Nat) (s : Shared), n - i = left → i ≤ n → St i s → Txt P w s.heap S (allT (xs.take i)) →
      (∀ s', Moved (S :: wr) G s s' → Txt P w s'.heap S (allT xs) → R (.ok (.ret .none)) s') → codeAny (model P w) A (.builtin "set.update.loop" ⟨[.ref S, .ref I], []⟩) R s := by
  have nw : S ∉ wr := fun z => apart (W.sub _ z)
  have wider : ∀ b ∈ wr, b ∈ S :: wr := fun b z => List.mem_cons_of_mem _ z
  intro left
  induction left with
  | zero =>
    intro i s hl hi hst hS hR
    have all : xs.take i = xs := List.take_of_length_le (by omega)
    have top : i = n := by omega
    subst top
    rw [all] at hS
    refine codeAny_builtin F.entry_set_update_loop ?_
    rw [Around.under_plainId F.plain_set_update_loop _]
    show wpAny _ A.in1 (pyNext (.ref I) >>= _) _ _ s
    refine wpAny_bind (W.done s _ _ hst fun s' hm => ?_)
    show wpAny _ A.in1 (ret Value.none) _ _ s'
    exact wpAny_pure (hR s' (hm.mono wider) (hS.at fun o e => hm.heap S o nw e))
  | succ left ih =>
    intro i s hl hi hst hS hR
    have lt : i < n := by omega
    refine codeAny_builtin F.entry_set_update_loop ?_
    rw [Around.under_plainId F.plain_set_update_loop _]
    show wpAny _ A.in1 (pyNext (.ref I) >>= _) _ _ s
    refine wpAny_bind (W.item i s _ _ lt hst fun v s1 hv st1 hm => ?_)
    obtain ⟨z, t, hz, rfl⟩ := val i v hv
    have S1 : Txt P w s1.heap S (allT (xs.take i)) := hS.at fun o e => hm.heap S o nw e
    show wpAny _ A.in1 (holding [Value.str z t] (setAdd S (.str z t)) >>= _) _ _ s1
    refine wpAny_bind (wpAny_holding ?_)
    unfold setAdd
    refine wpAny_holding (wpAny_bind ((strKind P w).pyHash (k := z) (is_str z t) ?_))
    have room : (allT (xs.take i)).length + 1 < scanBound := by
      have q := allT_len (xs.take i)
      have q2 : (xs.take i).length ≤ xs.length := by rw [List.length_take]; omega
      omega
    refine put_text (s := { s1 with toks := s1.toks + 1 }) S1 room fun h' b sb S2 => ?_
    rw [← allT_snoc hz] at S2
    refine wpAny_pure ⟨plainId_quiet F.plain_set_update_loop _, ih (i + 1) _ (by omega) lt (W.frame _ s1 _ _ st1 (Nat.le_succ _) fun b hb o e => ?_) S2 fun s2 hm2 hS2 => ?_⟩
    · rw [sb.2 b fun z => apart (by rw [← z]; exact hb)]
      exact e
    · refine hR s2 (Moved.trans W.gtrans ((hm.mono wider).then_heap (Nat.le_succ _) fun b o hb e => ?_) hm2) hS2
      rw [sb.2 b fun z => hb (by rw [z]; exact List.mem_cons_self)]
      exact e
end
end TsX

namespace TsX
open PySem PySem.Spec PyProof.Rows L2 PySem.Froz
abbrev newSet (w : World) : Obj := { cls := .type "set", dict := none, data := .set #[] 0 (.fresh 0 0 (!w.params.followText "set-order")) }
section
variable {P : Program} {w : World} {A : Around} {E : Value → Shared → Prop} {s : Shared} {h h' : Heap} {a : Addr} {l : List Str}
theorem new_txt (e : h.get? a = some (newSet w)) : Txt P w h a [] := by
  refine ⟨(#[], 0, .fresh 0 0 (!w.params.followText "set-order")), e, TxOk.nil (by rfl), List.Pairwise.nil, ?_⟩
  show _ ∨ (!w.params.followText "set-order") = true
  cases w.params.followText "set-order" with
  | true => exact .inl rfl
  | false => exact .inr rfl
theorem strs_get : ∀ {us : List Value} {xs : List Str} (i : Nat) (v : Value), StrsAre us xs → us[i]? = some v → ∃ k t, xs[i]? = some k ∧ v = .str k t
  | _, _, _, _, .nil, e => by simp at e
  | _, _, 0, v, .cons y t r, e => by
    simp at e
    exact ⟨y, t, rfl, e.symm⟩
  | _, _, i + 1, v, .cons y t r, e => by
    obtain ⟨k, t', e1, e2⟩ := strs_get i v r (by simpa using e)
    exact ⟨k, t', by simpa using e1, e2⟩
theorem strs_size : ∀ {us : List Value} {xs : List Str}, StrsAre us xs → us.length = xs.length
  | _, _, .nil => rfl
  | _, _, .cons y t r => congrArg Nat.succ (strs_size r)
set_option maxHeartbeats 8000000 in
/-- set(xs), a list of texts -/
theorem set_list {p : Addr} {items : Array Value} (xs : List Str) {Q : Value → Shared → Prop} (hh : A.handled = none) (hl : s.heap.IsList p items) (hit : StrsAre items.toList xs) (few : xs.length + 1 < scanBound)
    (h : ∀ (h' : Heap) (tk : Nat), Txt P w h' s.heap.objs.size (allT xs) → (∀ b o, s.heap.get? b = some o → h'.get? b = some o) → Q (.ref s.heap.objs.size) { s with heap := h', toks := tk }) :
    wpAny (model P w) A (call (.type "set") [.ref p]) Q E s := by
  have many : items.size = xs.length := by
    rw [← Array.length_toList]
    exact strs_size hit
  have made := F.called_set.made
  have under := F.called_set.sub
  obtain ⟨c, tl, order⟩ := F.called_set.mro
  apply wpAny_call
  apply codeAny_of_tree
  show wpAny _ _ (callAny (.type "set") _) _ _ _
  refine wpAny_pure ⟨Code.quiet_builtin _ (by decide +kernel), codeAny_builtin F.entry_type_call ?_⟩
  rw [Around.under_plain (weight_type_call_type "set" [.ref p] []) rfl]
  have k1 := F.called_set.notType
  have k2 := F.called_set.canCreate
  have k3 := F.typeCall_set_1 (.ref p)
  repeat (any_goals (first | assumption | wp_step))
  refine codeAny_mono (code_set_led1 (.ref p) (E := E) (Q₁ := fun obj s₁ => obj = .ref s.heap.objs.size ∧ s₁ = { s with heap := s.heap.push (newSet w) }) ⟨rfl, rfl⟩) fun r s1 hr => ?_
  cases r with
  | error e => exact hr
  | ok fl =>
    cases fl with
    | next => exact hr.elim
    | brk => exact hr.elim
    | cont => exact hr.elim
    | ret obj =>
      obtain ⟨rfl, rfl⟩ := hr
      have at0 : (s.heap.push (newSet w)).get? s.heap.objs.size = some (newSet w) := Heap.get?_push_size _ rfl
      have ty0 : Shared.TypeIs { s with heap := s.heap.push (newSet w) } (.ref s.heap.objs.size) "set" := ⟨_, at0, rfl⟩
      have look := F.called_set.init.lookup
      have bind := F.called_set.init.bind (.ref s.heap.objs.size)
      repeat (any_goals (first | assumption | wp_step))
      refine codeAny_mono (codeAny_call_builtin (R := wants (fun r s₂ => r = .none ∧ ∃ h' tk, s₂ = { s with heap := h', toks := tk } ∧ Txt P w h' s.heap.objs.size (allT xs) ∧
          (∀ b o, s.heap.get? b = some o → h'.get? b = some o)) E) F.called_set.init.plain F.entry_set_init (check_set_init_1 ty0 ?_)) fun r2 s2 hr2 => ?_
      · obtain ⟨⟨ocls, odict, odata, oslots⟩, hol, hcl, nl, hdl⟩ := hl
        dsimp only at hcl hdl
        subst hcl hdl
        have kept : (s.heap.push (newSet w)).get? p = some { cls := .type "list", dict := odict, data := .seq items nl, slots := oslots } := Heap.get?_push_of_some _ hol
        have isl : (s.heap.push (newSet w)).IsList p items := ⟨_, kept, rfl, nl, rfl⟩
        have j1 := F.sub_list_set
        have j2 := F.sub_list_frozenset
        have j3 : (Value.type "list" == Value.type "dict") = false := by decide
        unfold Builtin.«set.__init__» noKeywords Builtin.Frozenset.updateFrom
        generalize hPI : pyIter = PI
        wp_walk
        subst hPI
        refine wpAny_pyIter_list isl ?_
        refine wpAny_bind (wpAny_runValue ?_)
        have low : p < s.heap.objs.size := Heap.lt_size hol
        have quiet : A.in1.in1.in1.handled = none := by simp [hh]
        have grown : (s.heap.push (newSet w)).objs.size = s.heap.objs.size + 1 := Heap.size_push ..
        have ne1 : p ≠ (s.heap.push (newSet w)).objs.size := by
          rw [grown]
          exact Nat.ne_of_lt (Nat.lt_succ_of_lt low)
        have ne2 : s.heap.objs.size ∉ [(s.heap.push (newSet w)).objs.size, p] := by
          rw [grown]
          simp only [List.mem_cons, List.not_mem_nil, or_false, not_or]
          exact ⟨Nat.ne_of_lt (Nat.lt_succ_self _), Nat.ne_of_gt low⟩
        refine put_all ((Walks.list quiet _ p ne1 items).toS) s.heap.objs.size ne2 xs many few (fun i v hv => strs_get i v hit (by rw [Array.getElem?_toList]; exact hv)) (items.size - 0) 0 _ (by omega) (Nat.zero_le _)
          ⟨⟨_, Heap.get?_push_size _ rfl, rfl, rfl⟩, isl.push _⟩ ?_ ?_
        · exact new_txt (Heap.get?_push_of_some _ at0)
        · intro s' hm hS
          obtain ⟨h', g2, d', tk', os'⟩ := s'
          have e1 : g2 = s.gens := hm.gens
          have e2 : d' = s.drawn := hm.drawn
          have e3 : os' = s.os := hm.os
          subst e1 e2 e3
          show wpAny _ _ _ _ _ _
          refine wpAny_pure ?_
          show wpAny _ _ (ret Value.none) _ _ _
          refine wpAny_pure ⟨rfl, h', tk', rfl, hS, fun b o e => ?_⟩
          have lt : b < s.heap.objs.size := Heap.lt_size e
          refine hm.heap b o ?_ (Heap.get?_push_of_some _ (Heap.get?_push_of_some _ e))
          simp only [List.mem_cons, List.not_mem_nil, or_false, not_or]
          refine ⟨Nat.ne_of_lt lt, ?_⟩
          rw [grown]
          exact Nat.ne_of_lt (Nat.lt_succ_of_lt lt)
      · cases r2 with
        | error e => exact hr2
        | ok fl2 =>
          cases fl2 with
          | ret r =>
            obtain ⟨rfl, h', tk, rfl, hS, hk⟩ := hr2
            repeat (any_goals (first | assumption | wp_step))
            exact h _ _ hS hk
          | _ => exact hr2.elim
theorem perm_sub : ∀ (l ks : List Str), l.Nodup → (∀ k ∈ l, k ∈ ks) → ks.length = l.length → ks.Perm l
  | [], ks, _, _, e => by
    have z := List.length_eq_zero_iff.mp e
    rw [z]
  | x :: r, ks, hn, sub, e => by
    obtain ⟨n1, n2⟩ := List.nodup_cons.mp hn
    have hx := sub x List.mem_cons_self
    refine (List.perm_cons_erase hx).trans ((perm_sub r (ks.erase x) n2 (fun k hk => ?_) ?_).cons x)
    · have ne : k ≠ x := fun z => n1 (z ▸ hk)
      exact (List.mem_erase_of_ne ne).mpr (sub k (List.mem_cons_of_mem _ hk))
    · rw [List.length_erase_of_mem hx, e, List.length_cons, Nat.add_sub_cancel]
theorem txt_strs {D : SD} (ok : TxOk P w D l) (hn : l.Nodup) : ∀ (vs : List Value), vs.Perm (D.1.toList.map (·.2)) → ∃ ks, StrsAre vs ks ∧ ks.Perm l := by
  -- the members, as texts
  have all : ∀ v ∈ D.1.toList.map (·.2), ∃ k t, v = .str k t ∧ k ∈ l := by
    intro v hv
    obtain ⟨e, he, q⟩ := List.mem_map.mp hv
    obtain ⟨⟨k, h1, _⟩, _⟩ := ok.el e he
    obtain ⟨t, ht⟩ := Value.isStrOf_shape (x := k) (v := e.2) h1
    exact ⟨k, t, by rw [← q, ht], (ok.mem k).mpr ⟨e, he, h1⟩⟩
  have text : ∀ (vs : List Value), (∀ v ∈ vs, ∃ k t, v = .str k t ∧ k ∈ l) → ∃ ks, StrsAre vs ks ∧ ks.length = vs.length ∧ ∀ k, k ∈ ks ↔ ∃ t, Value.str k t ∈ vs := by
    intro vs
    induction vs with
    | nil => exact fun _ => ⟨[], .nil, rfl, fun k => by simp⟩
    | cons v vs ih =>
      intro hv
      obtain ⟨k, t, rfl, _⟩ := hv v List.mem_cons_self
      obtain ⟨ks, h1, h2, h3⟩ := ih fun u hu => hv u (List.mem_cons_of_mem _ hu)
      refine ⟨k :: ks, .cons k t h1, by rw [List.length_cons, List.length_cons, h2], fun j => ?_⟩
      rw [List.mem_cons, h3]
      constructor
      · rintro (e | ⟨t', e⟩)
        · exact ⟨t, by rw [e]; exact List.mem_cons_self⟩
        · exact ⟨t', List.mem_cons_of_mem _ e⟩
      · rintro ⟨t', e⟩
        rcases List.mem_cons.mp e with e | e
        · injection e with e _
          exact .inl e
        · exact .inr ⟨t', e⟩
  intro vs pm
  obtain ⟨ks, h1, h2, h3⟩ := text vs fun v hv => all v (pm.mem_iff.mp hv)
  refine ⟨ks, h1, ?_⟩
  have len : ks.length = l.length := by
    rw [h2, pm.length_eq, List.length_map, Array.length_toList]
    exact ok.sz
  have sub : ∀ k ∈ l, k ∈ ks := by
    intro k hk
    obtain ⟨e, he, hi⟩ := (ok.mem k).mp hk
    obtain ⟨t, ht⟩ := Value.isStrOf_shape (x := k) (v := e.2) hi
    exact (h3 k).mpr ⟨t, pm.mem_iff.mpr (List.mem_map.mpr ⟨e, he, ht⟩)⟩
  exact perm_sub l ks hn sub len
/-- sorted(s), a set of texts with fewer than 64 members -/
theorem sorted_txt {Q : Value → Shared → Prop} (x : Txt P w s.heap a l) (hn : l.Nodup) (hh : A.handled = none) (h64 : l.length < 64)
    (hQ : ∀ s' p (out : Array Value) (c : Nat) (ys : List Str), (∀ b o, s.heap.get? b = some o → s'.heap.get? b = some o) → s'.gens = s.gens → s'.os = s.os → s.heap.objs.size ≤ p →
      s'.heap.get? p = some (seqObj "list" out c) → StrsAre out.toList ys → ys.Perm l → sortedS ys = true → Q (.ref p) s') :
    wpAny (model P w) A (call (.builtin "sorted") [.ref a]) Q E s := by
  obtain ⟨⟨es, ep, t⟩, ho, ok, ris, led⟩ := x
  have few : es.size < scanBound := by
    have e : es.size = l.length := ok.sz
    have z : scanBound = 4096 := by first | rfl | (unfold scanBound; rfl)
    omega
  refine Calls.call_function_entry kind_sorted plain_sorted entry_sorted (args_sorted1 _) ?_
  unfold Builtin.«sorted»
  refine wpAny_bind (m := checkCount "sorted" 1 1 _) (wpAny_pure ?_)
  refine wpAny_bind (collect_set (A := A.in1) hh ⟨_, ho, rfl, rfl⟩ ok.fit few ris led fun s1 vs k1 hz g1 o1 pm => ?_)
  obtain ⟨ks, hS, pk⟩ := txt_strs ok hn vs pm
  have len : vs.length = l.length := (strs_size hS).trans pk.length_eq
  refine wpAny_bind (wpAny_newList ?_ (by rw [len, sizeLine_eq]; omega))
  have at1 : (s1.heap.push (seqObj "list" vs.toArray 0)).get? s1.heap.objs.size = some (seqObj "list" vs.toArray 0) := Heap.get?_push_size _ rfl
  refine wpAny_bind (wpAny_holding (wpAny_call_entry slot_list_sort ⟨_, at1, rfl⟩ entry_list_sort
    (list_sort_treeK strKind_oneLt at1 hS.keysOf (fun v₁ v₂ rest e => keyKind_strs (by rw [← e]; exact hS)) (by rw [len]; exact h64) fun st' hp hs => ⟨_, rfl, ?_⟩) (args_list_sort _)))
  obtain ⟨ys, q1, q2, q3⟩ := sorted_out_str hS hp hs
  obtain ⟨c, hc⟩ := sortedHeap_at (vs := vs) (out := (arrOf st').map (·.2)) at1
  refine wpAny_pure ⟨_, rfl, hQ _ s1.heap.objs.size _ c ys (fun b u e => ?_) g1 o1 hz hc q1 (q2.trans pk) q3⟩
  have q := k1 b u e
  have lt := Heap.lt_size q
  show (sortedHeap (s1.heap.push (seqObj "list" vs.toArray 0)) s1.heap.objs.size vs _).get? b = some u
  rw [sortedHeap_old (Nat.ne_of_lt lt) (by rw [size_push']; exact Nat.lt_succ_of_lt lt)]
  exact Heap.get?_push_of_some _ q
end
/-! ### over the layer -/
def SetT (P : Program) (w : World) (a : Addr) (l : List Str) : HO := .ext fun h => Txt P w h a l
theorem setT_ok {P : Program} {w : World} {H : Hp} {h : Heap} {a : Addr} {l : List Str} (x : Txt P w h a l) : ObjOk P w H h a (SetT P w a l) := by
  refine ⟨x, ?_, fun h1 h2 x k => Txt.at x k⟩
  obtain ⟨D, e, _⟩ := x
  exact ⟨_, e⟩
section
variable {X : Cx}
def rSetT (X : Cx) : List V → Hp → VK → Prop := fun xs H Q => ∃ (p : Addr) (ks : List Str), xs = [.ref p] ∧ SqL X.K H p (ks.map V.str) ∧ ks.length < 1000 ∧ ∀ a, H a = none → Q (.ref a) (upd H a (SetT X.prog X.w a (allT ks)))
theorem call_setT (hc : X.calm = true) : CallR X (.type "set") (rSetT X) := by
  intro pins s σ H xs us Q I r h
  obtain ⟨p, ks, rfl, hs, h64, q⟩ := h
  obtain ⟨its, rv, hl, _⟩ := I.list hs
  rw [Vals.ref1 r]
  have z : scanBound = 4096 := by first | rfl | (unfold scanBound; rfl)
  refine set_list ks (I.ok.hd hc) hl.isList rv.strs (by omega) fun h' tk hx hk => ?_
  exact ⟨.ref _, upd H s.heap.objs.size (SetT X.prog X.w s.heap.objs.size (allT ks)), I.laid (t' := tk) hk (Nat.le_refl _) (setT_ok hx), rfl, q _ (I.hok.fresh (Nat.le_refl _))⟩
def rSortedT (X : Cx) : List V → Hp → VK → Prop := fun xs H Q => ∃ (a : Addr) (l : List Str), xs = [.ref a] ∧ H a = some (SetT X.prog X.w a l) ∧ l.Nodup ∧ l.length < 64 ∧ ∀ (ys : List Str) (p : Addr), ys.Perm l → sortedS ys = true → H p = none → Q (.ref p) (upd H p (.lst (ys.map V.str)))
theorem call_sortedT (hc : X.calm = true) : CallR X (.builtin "sorted") (rSortedT X) := by
  intro pins s σ H xs us Q I r h
  obtain ⟨a, l, rfl, ha, hn, h64, q⟩ := h
  have x : Txt X.prog X.w s.heap a l := (I.hok a _ ha).1
  rw [Vals.ref1 r]
  refine sorted_txt x hn (I.ok.hd hc) h64 fun s' p out c ys k g o hp hg hi hm hs => ?_
  have hlen : (ys.map V.str).length ≤ sizeLine := by rw [List.length_map, hm.length_eq, sizeLine_eq]; omega
  have hn : H p = none := I.hok.fresh hp
  have J : Inv X pins σ (upd H p (.lst (ys.map V.str))) { s with heap := s'.heap, gens := s'.gens, drawn := s'.drawn, toks := s'.toks } :=
    I.call (ch := []) (Un.laid k hp hn) (I.hok.laid k hp ⟨hlen, out.toList, c, vals_of_strs hi, hg⟩) (by rw [g]; exact I.bare) (fun _ z => nomatch z)
  have e : s' = { s with heap := s'.heap, gens := s'.gens, drawn := s'.drawn, toks := s'.toks } := by
    cases s'
    cases s
    cases o
    rfl
  rw [e]
  exact ⟨.ref p, _, J, rfl, q ys p hm hs hn⟩
end
end TsX

/-! own + - of one class, own * with an int, own - of one; == of two dicts of ints; o.m(k = v) -/
namespace KwX
open PySem PySem.Spec PySem.Calls PyProof.Rows L2 StX
section
variable {X : Cx} {CX : CXT} {n : Nat} {f C : Addr} {sp : Sp} {E : XK}
/-- o + p, both of C -/
def rBinO (C : Addr) (sp : Sp) (E : XK) : R2 := fun x y H Q => ∃ a b, x = .ref a ∧ y = .ref b ∧ InsAt H a C ∧ InsAt H b C ∧ sp [.ref a, .ref b] H (fun v H' => ∃ r, v = .ref r ∧ Q (.ref r) H') E
theorem op_binO {op : Operator} (O : OwnD X.K C (PySem.dunder op.info.2) f) (hc : PySem.W.selfFirst X.K C = true) (F : FnR X.prog X.w X.K X.mg X.base CX n f sp) (hr : Room n X.A) (hx : Passes CX X E) : OpR X (binaryOp op) (rBinO C sp E) := by
  intro pins s σ H x y v u Q I rx ry h
  obtain ⟨a, b, rfl, rfl, ha, hb, hs⟩ := h
  obtain rfl : v = Value.ref a := rx
  obtain rfl : u = Value.ref b := ry
  obtain ⟨ox, od, J⟩ := inst_of I ha
  obtain ⟨oy, oe, J2⟩ := inst_of I hb
  obtain ⟨m, hF⟩ := I.fr
  refine PySem.W.binop_K hF I.ok.mod.kin J J2.type hc O.fi O.fn (thn (run_at (sub0 hr) (us := [.ref a, .ref b]) (vs := [.ref a, .ref b]) F hx I (.cons rfl (.cons rfl .nil)) hs) fun z s' hv => ?_)
  obtain ⟨x, H', I', rz, r, rfl, q⟩ := hv
  obtain rfl : z = Value.ref r := rz
  exact ⟨.ref r, H', I', rfl, q⟩
/-- o * i, i an int -/
def rMulO (C : Addr) (sp : Sp) (E : XK) : R2 := fun x y H Q => ∃ a i, x = .ref a ∧ y = .int i ∧ InsAt H a C ∧ sp [.ref a, .int i] H (fun v H' => ∃ r, v = .ref r ∧ Q (.ref r) H') E
theorem op_mulO {op : Operator} {fo ro : Option Value} (O : OwnD X.K C (PySem.dunder op.info.2) f) (hc : PySem.W.selfFirst X.K C = true) (hr0 : PySem.W.findIn X.K (.ref C) (PySem.dunderR op.info.2) = some none)
    (h1 : PySem.W.findIn X.K (.type "int") (PySem.dunder op.info.2) = some fo) (h2 : PySem.W.findIn X.K (.type "int") (PySem.dunderR op.info.2) = some ro) (hsub : PySem.W.subIn X.K (.type "int") (.ref C) = some false)
    (F : FnR X.prog X.w X.K X.mg X.base CX n f sp) (hr : Room n X.A) (hx : Passes CX X E) : OpR X (binaryOp op) (rMulO C sp E) := by
  intro pins s σ H x y v u Q I rx ry h
  obtain ⟨a, i, rfl, rfl, ha, hs⟩ := h
  obtain rfl : v = Value.ref a := rx
  obtain ⟨t, rfl⟩ := ry
  obtain ⟨ox, od, J⟩ := inst_of I ha
  obtain ⟨m, hF⟩ := I.fr
  refine PySem.W.ksp_binT hF I.ok.mod.kin J rfl hc O.fi O.fn hr0 (.inl rfl) h1 h2 hsub (thn (run_at (sub0 hr) (us := [.ref a, .int i t]) (vs := [.ref a, .int i]) F hx I (.cons rfl (.cons ⟨t, rfl⟩ .nil)) hs) fun z s' hv => ?_)
  obtain ⟨x, H', I', rz, r, rfl, q⟩ := hv
  obtain rfl : z = Value.ref r := rz
  exact ⟨.ref r, H', I', rfl, q⟩
/-- -o -/
def rNegO (C : Addr) (sp : Sp) (E : XK) : V → Hp → VK → Prop := fun x H Q => ∃ a, x = .ref a ∧ InsAt H a C ∧ sp [.ref a] H Q E
theorem un_negO (O : OwnD X.K C "__neg__" f) (F : FnR X.prog X.w X.K X.mg X.base CX n f sp) (hr : Room n X.A) (hx : Passes CX X E) : UnR X (unaryOp .USub) (rNegO C sp E) := by
  intro pins s σ H x v Q I rx h
  obtain ⟨a, rfl, ha, hs⟩ := h
  obtain rfl : v = Value.ref a := rx
  obtain ⟨ox, od, J⟩ := inst_of I ha
  obtain ⟨m, hF⟩ := I.fr
  exact PySem.W.ksp_neg hF I.ok.mod.kin J O.fi O.fn (run_at (sub0 hr) (us := [.ref a]) (vs := [.ref a]) F hx I (.cons rfl .nil) hs)
/-- bool(o) -/
def rBoolO (C : Addr) (sp : Sp) (E : XK) : List V → Hp → VK → Prop := fun xs H Q => ∃ a, xs = [.ref a] ∧ InsAt H a C ∧ sp [.ref a] H (fun v H' => ∃ b, v = .bl b ∧ Q (.bl b) H') E

/-! == of dicts of ints -/
def hitI (ls : List (Key × V)) (p : Key × V) : Bool := match valV ls p.1 with
  | some v => decide (v = p.2)
  | none => false
theorem hits_int {A : Around} {s : Shared} {ls : List (Key × V)} {vb : List (Key × Value)} (rb : KV ls vb) (hl : ∀ k v, valV ls k = some v → ∃ i, v = .int i) {ks : List (Key × V)} {va : List (Key × Value)} (ra : KV ks va) (hk : ∀ p ∈ ks, ∃ i, p.2 = V.int i) :
    PySem.W.KeqHits A s vb va (ks.all (hitI ls)) := by
  unfold KV at ra
  induction ra with
  | nil => exact .nil
  | @cons p q ps qs h t ih =>
    obtain ⟨h1, h2⟩ := h
    obtain ⟨i, hi⟩ := hk p List.mem_cons_self
    have rr : RelO (valV ls p.1) (valueAt vb p.1) := rb.val p.1
    obtain ⟨k, v⟩ := q
    have h1' : p.1 = k := h1
    rw [List.all_cons]
    cases e : valV ls p.1 with
    | none =>
      have z : hitI ls p = false := by unfold hitI; rw [e]
      rw [z, Bool.false_and]
      rw [e] at rr
      refine .miss ?_
      rw [← h1']
      cases e2 : valueAt vb p.1 with
      | none => rfl
      | some y => rw [e2] at rr; exact False.elim rr
    | some w =>
      obtain ⟨j, rfl⟩ := hl _ _ e
      have z : hitI ls p = decide (V.int j = p.2) := by unfold hitI; rw [e]
      rw [e] at rr
      obtain ⟨y, hy, ry⟩ := rr.some_of
      rw [h1'] at hy
      obtain ⟨t2, rfl⟩ := (show ∃ t, y = Value.int j t from ry)
      rw [hi] at h2
      obtain ⟨t1, e1⟩ := (show ∃ t, v = Value.int i t from h2)
      subst e1
      have eq := SeqAt.EqAt.int_int (A := A) (s := s) i t1 j t2
      have zz : hitI ls p = (i == j) := by
        rw [z, hi, Bool.eq_iff_iff]
        simp only [decide_eq_true_eq, beq_iff_eq]
        exact ⟨fun q => (V.int.inj q).symm, fun q => by rw [q]⟩
      rw [zz]
      exact .hit hy eq (ih fun p' hm => hk p' (List.mem_cons_of_mem _ hm))
def rEqDI : R2 := fun x y H Q => ∃ a b ks ls, x = .ref a ∧ y = .ref b ∧ H a = some (.dK ks) ∧ H b = some (.dK ls) ∧ (∀ p ∈ ks, ∃ i, p.2 = V.int i) ∧ (∀ k v, valV ls k = some v → ∃ i, v = V.int i) ∧ Q (.bl (ks.length == ls.length && ks.all (hitI ls))) H
theorem op_eqDI (hu : X.A.units < cLine) : OpR X (compareOp .Eq) rEqDI := by
  intro pins s σ H x y v u Q I rx ry h
  obtain ⟨a, b, ks, ls, rfl, rfl, ea, eb, hk, hl, q⟩ := h
  obtain rfl : v = Value.ref a := rx
  obtain rfl : u = Value.ref b := ry
  obtain ⟨_, ya, va, ra, da⟩ := (show ObjOk X.prog X.w H s.heap a (.dK ks) from I.hok a _ ea)
  obtain ⟨_, yb, vb, rb, db⟩ := (show ObjOk X.prog X.w H s.heap b (.dK ls) from I.hok b _ eb)
  rw [ra.length, rb.length] at q
  exact PySem.W.keq_eq (knd := mixKind X.prog X.w) (r := ks.all (hitI ls)) ya yb da db hu (fun _ => hits_int rb hl ra hk) (fin_bl I q rfl)
/-- o.m(k = v, ..): keywords alone -/
def tMethK (C : Addr) (m : Str) (sp : Sp) (gV : List V → List V → List V) (E : XK) (ta : TE) (tk : TA) : TE := fun σ H Q => ta σ H fun x H1 => ∃ a dx fs, x = .ref a ∧ H1 a = some (.ins C dx fs) ∧ fs.lookup m = none ∧ tk σ H1 fun zs H2 => sp (gV [.ref a] zs) H2 Q E
theorem pe_methKw {pl : Sem Bool} {k : Nat} {fd : FuncData} {ps ks : List Str} {g : List Value → List Value → List Value} {gV : List V → List V → List V} {m : Str} {o : Expr} {kws : List Keyword} {pos apos : Pos} {ta : TE} {tk : TA}
    (he : PE X o ta) (c : Cls X.K C) (hm : Meth X.K C m f) (F : FnOk X.prog X.w X.K X.mg X.base CX k f fd ps sp) (hr : Room k X.A) (hb : KBinds X.K fd ps ks g gV) (hx : Passes CX X E) (hkw : PK X kws tk)
    (hall : (backToKw pos (keywordEach kws X.env)).all (·.1.isSome) = true := by rfl) (hks : (backToKw pos (keywordEach kws X.env)).filterMap (·.1) = ks := by rfl)
    (hpl : ((backTo pos (starEach [] X.env)).any (·.1) || (backToKw pos (keywordEach kws X.env)).any (·.1.isNone)) = false := by rfl)
    (ht : eval (.Call (.Attribute o m apos) [] kws pos) X.env = (do
      let ov ← eval o X.env
      standAt apos.atName
      let (f, first) ← holding [ov] (getMethod ov m pl)
      callWith pos f first (backTo pos (starEach [] X.env)) (backToKw pos (keywordEach kws X.env))) := by rfl) :
    PE X (.Call (.Attribute o m apos) [] kws pos) (tMethK C m sp gV E ta tk) := by
  refine ⟨fun pins s σ H Q I h => ?_⟩
  refine PySem.W.methodCall_KW (pl := pl) (thn (he.run pins s σ H _ I h) fun u s1 ⟨x, H1, I1, rx, a, dx, fs, ex, ea, l, q⟩ => ?_) ht
  subst ex
  obtain rfl : u = Value.ref a := rx
  refine getmeth_ok I1 ea c hm l ?_
  refine PySem.W.callWith_KW0 (first := [.ref a]) (h₀ := X.base) I1.ok.mod.kin hm.kp hall (thn (hkw.run pos pins s1 σ H1 _ I1 q) fun ws s2 ⟨zs, H2, I2, rz, q2⟩ => ⟨I2.kIn, ?_⟩) hpl
  rw [hks]
  exact run_fnk (us := [.ref a]) (vs := [.ref a]) F hr hb hx I2 (.cons rfl .nil) rz q2
end
end KwX

/-! name = {k: v for ..}; a dict comprehension over any walk -/
namespace KwX
open PySem PySem.Spec PySem.Calls PyProof.Rows L2 StX
section
variable {X : Cx}
theorem swd_true {kx vx : Expr} {gs : List Comprehension} {scope : Scope} {pos py : Pos} {y : Str} {l : Nat} {env : Env} (hk : env.scope.kind = .function) (hy : env.scope.names.lookup y = some .local) (hl : (py.line == pos.line) = true)
    (ha : (scope.names.any fun (n, k) => n == y && (k == .local || k == .cell)) = false) : swapsWith (.DictComp kx vx gs scope pos) (some (.Name y py)) l env = pure true := by
  have ky : env.kindOf y = some .local := hy
  have hb : env.blockKind = .function := by unfold Env.blockKind; rw [hk]; rfl
  unfold swapsWith
  simp only [hb, ky, ha, Expr.pos, hl]
  rfl
theorem ps_setDc {i : Nat} {y : Str} {py : Pos} {kx vx tg iter : Expr} {ifs : List Expr} {scope : Scope} {own : List (Str × Nat)} {pos spos : Pos} {wi : TI} {g : TG} {tt : TT} {tk tv : TE} (hc : X.calm = true) (hN : X.N.Nodup) (hy : X.N[i]? = some y) (hyl : X.env.scope.names.lookup y = some .local)
    (hsw : swapsWith (.DictComp kx vx [⟨tg, iter, ifs, 0⟩] scope pos) (some (.Name y py)) spos.line X.env = pure true) (hi : PI X tg iter wi) (ok : BlkOk X.N X.env.scope scope own)
    (hg : ∀ (s : Shared) (H : Hp) (C : Addr) (cl : List (Str × Addr)) (fp : List Addr), PG (X.blk s H scope (compEnvC scope cl C X.env) fp) tg g) (ht : ∀ (s : Shared) (H : Hp) (C : Addr) (cl : List (Str × Addr)) (fp : List Addr), PTs (X.blk s H scope (compEnvC scope cl C X.env) fp) ifs tt)
    (hk : ∀ (s : Shared) (H : Hp) (C : Addr) (cl : List (Str × Addr)) (fp : List Addr), PE (X.blk s H scope (compEnvC scope cl C X.env) fp) kx tk)
    (he : ∀ (s : Shared) (H : Hp) (C : Addr) (cl : List (Str × Addr)) (fp : List Addr), PE (X.blk s H scope (compEnvC scope cl C X.env) fp) vx tv) (hs : ∀ x, foldedSetIterable iter X.env x = pure x := by intro _; rfl) :
    PS X (.Assign [.Name y py] (.DictComp kx vx [⟨tg, iter, ifs, 0⟩] scope pos) spos) (tAsg (tDc wi g tt tk tv (own.map (·.2))) (gName i)) := by
  refine ⟨fun pins s σ H D I h => ?_⟩
  rw [exec_Assign_Name_used _ _ _ _ hsw]
  refine wpAny_bind (wpAny_standAt (wpAny_bind ?_))
  show wpAny _ X.A (do let _ ← comprehension (.DictComp kx vx [⟨tg, iter, ifs, 0⟩] scope pos) scope X.env (firstIterPos [⟨tg, iter, ifs, 0⟩] pos) newDict false (eval iter X.env) (some (assign (.Name y py) X.env))) _ _ s
  have h : tDc wi g tt tk tv (own.map (·.2)) σ H (fun x H1 => gName i x σ H1 D.nx) := h
  refine wpAny_bind (thn (dc_core (Qf := fun _ s' => SP X pins D .next s') hc hN I hi ok hg ht hk he hs h fun L C s' m H' I' q hn f => ?_) fun _ s' hq => wpAny_pure (wpAny_pure hq))
  show wpAny _ _ (assign (.Name y py) X.env (.ref L)) _ _ _
  refine wpAny_assign_Name (store_ok2 (v := V.ref L) I' hN hy (.inl hyl) rfl (fun s2 I2 ⟨a, sb, ha⟩ => ?_) (.inr hyl))
  obtain ⟨f0, f1, f2, f3, f4, f5⟩ := f
  have haC : C ≠ a := by
    rcases ha with z | z
    · rw [z]; exact f1
    · exact fun e => f4 y a z e.symm
  refine ⟨m, hn.sameBut sb haC, fun h3 sb3 => ?_⟩
  exact ⟨_, H', I2.turned (t' := s2.toks) (fun b o hb e => (sb3.2 b hb).trans e) f0 f1 f3 f4 f5, q⟩
theorem ps_setDcL {i : Nat} {y : Str} {py : Pos} {kx vx tg iter : Expr} {ifs : List Expr} {scope : Scope} {own : List (Str × Nat)} {pos spos : Pos} {wi : TI} {g : TG} {tt : TT} {tk tv : TE} (hc : X.calm = true) (hN : X.N.Nodup) (hy : X.N[i]? = some y) (hyl : X.env.scope.names.lookup y = some .local)
    (hsw : swapsWith (.DictComp kx vx [⟨tg, iter, ifs, 0⟩] scope pos) (some (.Name y py)) spos.line X.env = pure true) (hi : PI X tg iter wi) (ok : BlkOk X.N X.env.scope scope own)
    (hg : ∀ (s : Shared) (H : Hp) (C : Addr) (cl : List (Str × Addr)) (fp : List Addr), PG (X.blk s H scope (compEnvC scope cl C X.env) fp) tg g) (ht : ∀ (s : Shared) (H : Hp) (C : Addr) (cl : List (Str × Addr)) (fp : List Addr), PTs (X.blk s H scope (compEnvC scope cl C X.env) fp) ifs tt)
    (hk : ∀ (s : Shared) (H : Hp) (C : Addr) (cl : List (Str × Addr)) (fp : List Addr), PE (X.blk s H scope (compEnvC scope cl C X.env) fp) kx tk)
    (he : ∀ (s : Shared) (H : Hp) (C : Addr) (cl : List (Str × Addr)) (fp : List Addr), PE (X.blk s H scope (compEnvC scope cl C X.env) fp) vx tv) (hs : ∀ x, foldedSetIterable iter X.env x = pure x := by intro _; rfl) :
    PS X (.Assign [.Name y py] (.DictComp kx vx [⟨tg, iter, ifs, 0⟩] scope pos) spos) (tLock (tAsg (tDc wi g tt tk tv (own.map (·.2))) (gName i))) := ps_lock (ps_setDc hc hN hy hyl hsw hi ok hg ht hk he hs)
end
/-- a dict comprehension over a walk: Pv by the turn and the heap (the new dict at D within) -/
theorem dc_it {J : It} {n : Nat} {G : Hp → Prop} {Y : Nat → Hp → V → Hp → Prop} (w : Walk J n G Y) {g : TG} {tt : TT} {tk tv : TE} {vs : List Nat} {σ : L2.St} {H1 : Hp} {D : Addr} {Qd : Hp → Prop} (Pv : Nat → Hp → Prop) (h0 : Pv 0 (upd H1 D (.dK []))) (hG : ∀ i H, i ≤ n → Pv i H → G H)
    (hs : ∀ i x H H', i < n → Pv i H → Y i H x H' → g x (wipe σ vs) H' fun σ2 H2 => wipe σ2 vs = wipe σ vs ∧ tt σ2 H2 fun b H3 =>
      if b = true then tk σ2 H3 fun y H4 => tv σ2 H4 fun z H5 => ∃ kvs k, y = kV k ∧ H5 D = some (.dK kvs) ∧ kvs.length < sizeLine ∧ Pv (i + 1) (upd H5 D (.dK (putK kvs k z))) else Pv (i + 1) H3) (hd : ∀ H, Pv n H → Qd H) :
    ∃ W : Nat → Nat → Hp → Prop, (∃ m, W 0 m (upd H1 D (.dK []))) ∧ ∀ i m H, W i m H →
      (J.stop i H ∧ Qd H) ∨ (J.go i H ∧ ∃ Nx : Hp → Prop, (∀ H', Nx H' → ∃ m', m' < m ∧ W (i + 1) m' H') ∧ ∀ x H', J.yld i H x H' → g x (wipe σ vs) H' fun σ2 H2 => wipe σ2 vs = wipe σ vs ∧ tt σ2 H2 fun b H3 =>
        if b = true then tk σ2 H3 fun y H4 => tv σ2 H4 fun z H5 => ∃ kvs k, y = kV k ∧ H5 D = some (.dK kvs) ∧ kvs.length < sizeLine ∧ Nx (upd H5 D (.dK (putK kvs k z))) else Nx H3) := by
  refine ⟨fun i m H => m = n - i ∧ i ≤ n ∧ Pv i H, ⟨n, by simp, Nat.zero_le _, h0⟩, ?_⟩
  rintro i m H ⟨rfl, hi, p⟩
  have q := hG i H hi p
  by_cases hlt : i < n
  · refine .inr ⟨w.goes i H hlt q, Pv (i + 1), fun H' p' => ⟨n - (i + 1), by omega, rfl, hlt, p'⟩, fun x H' y => hs i x H H' hlt p (w.yields i H x H' hlt q y)⟩
  · have e : i = n := by omega
    subst e
    exact .inl ⟨w.stops H q, hd H p⟩
end KwX

/-! dicts from texts to ints, their canonical form -/
namespace VecX
open PySem PySem.Spec PyProof.Rows L2
abbrev IL := List (Str × Int)
def DI (l : IL) : List (Key × V) := l.map fun p => (Sum.inr p.1, V.int p.2)
def vl (l : IL) (k : Str) : Int := (l.lookup k).getD 0
def ks (l : IL) : List Str := l.map (·.1)
def putI (l : IL) (k : Str) (i : Int) : IL := if k ∈ ks l then l.map (fun p => if p.1 = k then (p.1, i) else p) else l ++ [(k, i)]
theorem DI_len (l : IL) : (DI l).length = l.length := List.length_map ..
theorem ks_len (l : IL) : (ks l).length = l.length := List.length_map ..
theorem DI_keys (l : IL) : (DI l).map (·.1) = (ks l).map Sum.inr := by unfold DI ks; rw [List.map_map, List.map_map]; rfl
theorem DI_kw (l : IL) : DI l = KwX.kwK (l.map fun p => (p.1, V.int p.2)) := by unfold DI KwX.kwK; rw [List.map_map]; rfl
theorem DI_val : ∀ (l : IL) (k : Str), valV (DI l) (Sum.inr k : Key) = (l.lookup k).map V.int
  | [], k => rfl
  | p :: r, k => by
    show valV ((Sum.inr p.1, V.int p.2) :: DI r) (Sum.inr k : Key) = _
    by_cases e : p.1 = k
    · rw [valV_pos (show (Sum.inr p.1 : Key) = Sum.inr k from congrArg Sum.inr e), List.lookup_cons, beq_iff_eq.mpr e.symm]
      rfl
    · rw [valV_neg (fun z => e (Sum.inr.inj z)), DI_val r k, List.lookup_cons, beq_eq_false_iff_ne.mpr (fun z => e z.symm)]
theorem DI_some {l : IL} {k : Key} {v : V} (h : valV (DI l) k = some v) : ∃ i, v = V.int i := by
  unfold valV at h
  cases e : (DI l).find? (fun kv => decide (kv.1 = k)) with
  | none => rw [e] at h; cases h
  | some p =>
    rw [e] at h
    cases h
    have m := List.mem_of_find?_eq_some e
    unfold DI at m
    obtain ⟨q, _, rfl⟩ := List.mem_map.mp m
    exact ⟨_, rfl⟩
theorem DI_int {l : IL} : ∀ p ∈ DI l, ∃ i, p.2 = V.int i := by
  intro p h
  unfold DI at h
  obtain ⟨q, _, rfl⟩ := List.mem_map.mp h
  exact ⟨_, rfl⟩
theorem any_keys (l : IL) (k : Str) : ((DI l).any fun kv => decide (kv.1 = (Sum.inr k : Key))) = decide (k ∈ ks l) := by
  rw [Bool.eq_iff_iff, List.any_eq_true, decide_eq_true_eq]
  constructor
  · rintro ⟨p, hp, e⟩
    unfold DI at hp
    obtain ⟨q, hq, rfl⟩ := List.mem_map.mp hp
    have e2 : q.1 = k := Sum.inr.inj (of_decide_eq_true e)
    rw [← e2]
    exact List.mem_map_of_mem hq
  · intro h
    obtain ⟨q, hq, e⟩ := List.mem_map.mp h
    exact ⟨(Sum.inr q.1, V.int q.2), List.mem_map_of_mem (f := fun p : Str × Int => ((Sum.inr p.1 : Key), V.int p.2)) hq, decide_eq_true (congrArg Sum.inr e)⟩
theorem DI_put (l : IL) (k : Str) (i : Int) : putK (DI l) (Sum.inr k : Key) (V.int i) = DI (putI l k i) := by
  unfold putK putI
  rw [any_keys]
  by_cases h : k ∈ ks l
  · rw [if_pos (decide_eq_true h), if_pos h]
    unfold DI
    rw [List.map_map, List.map_map]
    refine List.map_congr_left fun p _ => ?_
    show (if (Sum.inr p.1 : Key) = Sum.inr k then _ else _) = _
    by_cases e : p.1 = k
    · rw [if_pos (congrArg Sum.inr e)]
      show _ = ((fun p : Str × Int => ((Sum.inr p.1 : Key), V.int p.2)) (if p.1 = k then (p.1, i) else p))
      rw [if_pos e]
    · rw [if_neg (fun z => e (Sum.inr.inj z))]
      show _ = ((fun p : Str × Int => ((Sum.inr p.1 : Key), V.int p.2)) (if p.1 = k then (p.1, i) else p))
      rw [if_neg e]
  · rw [if_neg (by rw [decide_eq_true_eq]; exact h), if_neg h]
    unfold DI
    rw [List.map_append]
    rfl
theorem ks_put (l : IL) (k : Str) (i : Int) : ks (putI l k i) = if k ∈ ks l then ks l else ks l ++ [k] := by
  unfold putI
  by_cases h : k ∈ ks l
  · rw [if_pos h, if_pos h]
    unfold ks
    rw [List.map_map]
    refine List.map_congr_left fun p _ => ?_
    show (if p.1 = k then (p.1, i) else p).1 = p.1
    split <;> rfl
  · rw [if_neg h, if_neg h]
    unfold ks
    rw [List.map_append]
    rfl
theorem ks_put_mem {l : IL} {k x : Str} {i : Int} : x ∈ ks (putI l k i) ↔ x ∈ ks l ∨ x = k := by
  rw [ks_put]
  split
  · rename_i h
    exact ⟨.inl, fun z => z.elim id fun e => e ▸ h⟩
  · rw [List.mem_append, List.mem_singleton]
theorem ks_put_nodup {l : IL} {k : Str} {i : Int} (h : (ks l).Nodup) : (ks (putI l k i)).Nodup := by
  rw [ks_put]
  split
  · exact h
  · rename_i q
    rw [List.nodup_append]
    refine ⟨h, List.nodup_cons.mpr ⟨List.not_mem_nil, List.nodup_nil⟩, fun a ha b hb => ?_⟩
    rw [List.mem_singleton.mp hb]
    exact fun e => q (e ▸ ha)
theorem put_len {l : IL} {k : Str} {i : Int} : (putI l k i).length ≤ l.length + 1 := by
  rw [← ks_len, ks_put]
  split
  · rw [ks_len]; omega
  · rw [List.length_append, ks_len]; exact Nat.le_refl _
theorem put_mem {l : IL} {k : Str} {i : Int} {p : Str × Int} (h : p ∈ putI l k i) : p ∈ l ∨ p = (k, i) := by
  unfold putI at h
  split at h
  · obtain ⟨q, hq, e⟩ := List.mem_map.mp h
    by_cases z : q.1 = k
    · rw [if_pos z] at e
      exact .inr (by rw [← e, z])
    · rw [if_neg z] at e
      exact .inl (e ▸ hq)
  · rcases List.mem_append.mp h with h | h
    · exact .inl h
    · exact .inr (List.mem_singleton.mp h)
theorem look_mem : ∀ {l : IL} {k : Str}, (l.lookup k).isSome = true ↔ k ∈ ks l
  | [], k => by simp [ks]
  | p :: r, k => by
    rw [List.lookup_cons]
    show _ ↔ k ∈ p.1 :: ks r
    by_cases e : k = p.1
    · rw [beq_iff_eq.mpr e]
      simp [e]
    · rw [beq_eq_false_iff_ne.mpr e, List.mem_cons]
      simp only [e, false_or]
      exact look_mem
theorem look_none {l : IL} {k : Str} (h : k ∉ ks l) : l.lookup k = none := by
  cases e : l.lookup k with
  | none => rfl
  | some i => exact absurd (look_mem.mp (by rw [e]; rfl)) h
theorem look_some {l : IL} {k : Str} (h : k ∈ ks l) : l.lookup k = some (vl l k) := by
  have z := look_mem.mpr h
  unfold vl
  cases e : l.lookup k with
  | none => rw [e] at z; cases z
  | some i => rfl
theorem vl_none {l : IL} {k : Str} (h : k ∉ ks l) : vl l k = 0 := by unfold vl; rw [look_none h]; rfl
theorem vl_nil (k : Str) : vl [] k = 0 := rfl
theorem look_append {l m : IL} {k : Str} : (l ++ m).lookup k = (l.lookup k).or (m.lookup k) := by
  induction l with
  | nil => rfl
  | cons p r ih =>
    rw [List.cons_append, List.lookup_cons, List.lookup_cons]
    by_cases e : k = p.1
    · rw [beq_iff_eq.mpr e]; rfl
    · rw [beq_eq_false_iff_ne.mpr e]; exact ih
theorem vl_put (l : IL) (k : Str) (i : Int) (x : Str) : vl (putI l k i) x = if x = k then i else vl l x := by
  unfold putI
  by_cases h : k ∈ ks l
  · rw [if_pos h]
    unfold vl
    have g : ∀ l : IL, (l.map fun p => if p.1 = k then (p.1, i) else p).lookup x = if x = k then (l.lookup x).map (fun _ => i) else l.lookup x := by
      intro l
      induction l with
      | nil => split <;> rfl
      | cons p r ih =>
        rw [List.map_cons]
        by_cases e : p.1 = k
        · rw [if_pos e, List.lookup_cons, List.lookup_cons]
          by_cases e2 : x = p.1
          · rw [beq_iff_eq.mpr e2, if_pos (e2.trans e)]; rfl
          · rw [beq_eq_false_iff_ne.mpr e2]; exact ih
        · rw [if_neg e, List.lookup_cons, List.lookup_cons]
          by_cases e2 : x = p.1
          · rw [beq_iff_eq.mpr e2, if_neg (fun z => e (e2.symm.trans z))]
          · rw [beq_eq_false_iff_ne.mpr e2]; exact ih
    rw [g]
    by_cases e : x = k
    · rw [if_pos e, if_pos e]
      rw [e, look_some h]; rfl
    · rw [if_neg e, if_neg e]
  · rw [if_neg h]
    unfold vl
    rw [look_append]
    by_cases e : x = k
    · rw [if_pos e, e, look_none h, List.lookup_cons, beq_self_eq_true]; rfl
    · rw [if_neg e]
      have z : List.lookup x [(k, i)] = none := by rw [List.lookup_cons, beq_eq_false_iff_ne.mpr e]; rfl
      rw [z]
      cases l.lookup x <;> rfl
/-! the order of texts -/
def lt (a b : Str) : Prop := a.cps.toList < b.cps.toList
theorem str_ext {a b : Str} (h : a.cps.toList = b.cps.toList) : a = b := by
  cases a; cases b
  congr
  exact Array.toList_inj.mp h
theorem lt_irr {a : Str} : ¬ lt a a := List.lt_irrefl _
theorem lt_tr {a b c : Str} (h : lt a b) (g : lt b c) : lt a c := List.lt_trans h g
theorem lt_as {a b : Str} (h : lt a b) : ¬ lt b a := fun g => lt_irr (lt_tr h g)
theorem not_lt {a b : Str} (h : ¬ lt a b) (n : a ≠ b) : lt b a := by
  have z : b.cps.toList ≤ a.cps.toList := List.not_lt.mp h
  rcases List.le_iff_lt_or_eq.mp z with q | q
  · exact q
  · exact absurd (str_ext q).symm n
theorem rising_pw : ∀ {l : List Str} {p : Str}, risingS p l = true → ∀ x ∈ l, ¬ lt x p
  | [], _, _, _, hx => nomatch hx
  | y :: r, p, h, x, hx => by
    have h2 : (!ltCps y.cps.toList p.cps.toList && risingS y r) = true := h
    rw [Bool.and_eq_true, ltCps_eq] at h2
    have a : ¬ lt y p := by
      have q := h2.1
      intro z
      rw [decide_eq_true (show y.cps.toList < p.cps.toList from z)] at q
      cases q
    rcases List.mem_cons.mp hx with e | e
    · rw [e]; exact a
    · have b := rising_pw h2.2 x e
      by_cases q : y = p
      · rw [← q]; exact b
      · have c : lt p y := not_lt a q
        intro z
        exact b (lt_tr z c)
theorem sorted_pw : ∀ {l : List Str}, sortedS l = true → l.Nodup → l.Pairwise lt
  | [], _, _ => .nil
  | x :: r, h, n => by
    have h1 : risingS x r = true := h
    obtain ⟨n1, n2⟩ := List.nodup_cons.mp n
    refine .cons (fun y hy => ?_) (sorted_pw ?_ n2)
    · exact not_lt (rising_pw h1 y hy) (fun e => n1 (e ▸ hy))
    · cases r with
      | nil => rfl
      | cons y s =>
        have q : (!ltCps y.cps.toList x.cps.toList && risingS y s) = true := h1
        rw [Bool.and_eq_true] at q
        exact q.2
theorem pw_eq : ∀ {l m : List Str}, l.Pairwise lt → m.Pairwise lt → (∀ x, x ∈ l ↔ x ∈ m) → l = m
  | [], [], _, _, _ => rfl
  | [], y :: s, _, _, h => by have := (h y).mpr List.mem_cons_self; cases this
  | x :: r, [], _, _, h => by have := (h x).mp List.mem_cons_self; cases this
  | x :: r, y :: s, hl, hm, h => by
    cases hl with
    | cons hx hr =>
    cases hm with
    | cons hy hs =>
      have e : x = y := by
        rcases List.mem_cons.mp ((h x).mp List.mem_cons_self) with q | q
        · exact q
        · rcases List.mem_cons.mp ((h y).mpr List.mem_cons_self) with p | p
          · exact p.symm
          · exact absurd (hy x q) (lt_as (hx y p))
      subst e
      have nx : x ∉ r := fun z => lt_irr (hx x z)
      have ny : x ∉ s := fun z => lt_irr (hy x z)
      rw [pw_eq hr hs fun z => ⟨fun q => ?_, fun q => ?_⟩]
      · rcases List.mem_cons.mp ((h z).mp (List.mem_cons_of_mem _ q)) with p | p
        · exact absurd (p ▸ q) nx
        · exact p
      · rcases List.mem_cons.mp ((h z).mpr (List.mem_cons_of_mem _ q)) with p | p
        · exact absurd (p ▸ q) ny
        · exact p
theorem pw_nodup {l : List Str} (h : l.Pairwise lt) : l.Nodup := List.Pairwise.imp (fun {a b} (h : lt a b) (e : a = b) => lt_irr (a := b) (by rw [e] at h; exact h)) h
/-! canonical lists: names ascend, no number is 0 -/
structure Can (l : IL) : Prop where
  asc : (ks l).Pairwise lt
  ne : ∀ p ∈ l, p.2 ≠ 0
theorem vl_mem : ∀ {l : IL} {p : Str × Int}, (ks l).Nodup → p ∈ l → vl l p.1 = p.2
  | [], _, _, h => nomatch h
  | q :: r, p, n, h => by
    obtain ⟨n1, n2⟩ := List.nodup_cons.mp (show (q.1 :: ks r).Nodup from n)
    unfold vl
    rw [List.lookup_cons]
    rcases List.mem_cons.mp h with e | e
    · rw [e, beq_self_eq_true]; rfl
    · have z : p.1 ≠ q.1 := fun w => n1 (w ▸ List.mem_map_of_mem e)
      rw [beq_eq_false_iff_ne.mpr z]
      exact vl_mem n2 e
theorem Can.iff {l : IL} (c : Can l) (k : Str) : k ∈ ks l ↔ vl l k ≠ 0 := by
  constructor
  · intro h
    obtain ⟨p, hp, e⟩ := List.mem_map.mp h
    have := vl_mem (pw_nodup c.asc) hp
    rw [← e, this]
    exact c.ne p hp
  · intro h
    exact Classical.byContradiction fun n => h (vl_none n)
theorem list_of_vl {l : IL} (n : (ks l).Nodup) : l = (ks l).map fun k => (k, vl l k) := by
  unfold ks
  rw [List.map_map]
  conv => lhs; rw [← List.map_id l]
  refine List.map_congr_left fun p hp => ?_
  show p = (p.1, vl l p.1)
  rw [vl_mem n hp]
theorem Can.ext {l m : IL} (c : Can l) (d : Can m) (h : ∀ k, vl l k = vl m k) : l = m := by
  have e : ks l = ks m := pw_eq c.asc d.asc fun k => by rw [c.iff, d.iff, h k]
  rw [list_of_vl (pw_nodup c.asc), list_of_vl (pw_nodup d.asc), e]
  exact List.map_congr_left fun k _ => by rw [h k]
/-- the canonical list with these numbers at these names -/
def mk (ys : List Str) (f : Str → Int) : IL := (ys.filter fun k => decide (f k ≠ 0)).map fun k => (k, f k)
theorem ks_mk (ys : List Str) (f : Str → Int) : ks (mk ys f) = ys.filter fun k => decide (f k ≠ 0) := by
  unfold ks mk
  rw [List.map_map]
  exact List.map_id _
theorem can_mk {ys : List Str} {f : Str → Int} (h : ys.Pairwise lt) : Can (mk ys f) := by
  refine ⟨?_, fun p hp => ?_⟩
  · rw [ks_mk]; exact h.filter _
  · unfold mk at hp
    obtain ⟨k, hk, rfl⟩ := List.mem_map.mp hp
    exact of_decide_eq_true (List.mem_filter.mp hk).2
theorem vl_mk {ys : List Str} {f : Str → Int} (h : ys.Nodup) (k : Str) : vl (mk ys f) k = if k ∈ ys then f k else 0 := by
  have nd : (ks (mk ys f)).Nodup := by rw [ks_mk]; exact h.filter _
  by_cases m : k ∈ ks (mk ys f)
  · obtain ⟨p, hp, e⟩ := List.mem_map.mp m
    rw [← e, vl_mem nd hp]
    unfold mk at hp
    obtain ⟨z, hz, rfl⟩ := List.mem_map.mp hp
    rw [if_pos (List.mem_filter.mp hz).1]
  · rw [vl_none m]
    rw [ks_mk, List.mem_filter] at m
    split
    · rename_i q
      have : ¬ (decide (f k ≠ 0) = true) := fun w => m ⟨q, w⟩
      have := fun w => this (decide_eq_true w)
      exact (Classical.byContradiction fun w => this fun z => w z.symm)
    · rfl
end VecX

/-! tuple(d), bool(d), bool(o) -/
namespace PySem
open Sem (wp)
open AutoSeq1 (wpAny_loadPart')
section
variable {prog : Program} {w : World} {A : Around} {E : Value → Shared → Prop} {s : Shared} {T : String} {r d : Addr} {n : Nat} {P : Nat → Value → Prop} {OK : Heap → Prop}
theorem code_tuple_new_d {Q₁ : Value → Shared → Prop} (K : PySem.W.KdlSrc prog w T r d n P OK) (hh : A.handled = none) (hok : OK s.heap) (hT : s.TypeIs (.ref r) T) (ne : T ≠ "tuple")
    (h : ∀ (h' : Heap) (tk : Nat) (acc : Array Value), (∀ b o, s.heap.get? b = some o → h'.get? b = some o) → ItemsOf P acc n → Q₁ (.ref h'.objs.size) { s with heap := h'.push { cls := .type "tuple", data := .seq acc }, toks := tk }) (hsz : n ≤ sizeLine) :
    codeAny (model prog w) A (.call (.builtin "tuple.__new__") ⟨[.type "tuple", .ref r], []⟩) (wants Q₁ E) s := by
  refine codeAny_of_tree ?_
  show wpAny _ A.in1 (do checkBuiltinCall "tuple.__new__" ⟨[.type "tuple", .ref r], []⟩; again (.builtin "tuple.__new__" ⟨[.type "tuple", .ref r], []⟩)) _ _ s
  refine wpAny_bind (wpAny_of_eq (F.newCall_tuple_1 _) (wpAny_pure ⟨plainId_quiet F.plain_tuple_new _, codeAny_builtin F.entry_tuple_new ?_⟩))
  rw [Around.under_plainId F.plain_tuple_new _]
  have hsub := sub_tuple_self
  have hinit := init_tuple_lookup
  have hmh := madeHere_tuple
  wp_walk using wpAny_typeOf hT, PySem.W.kdu_collect (A := A.in1) K hh hok hsz
  intro h' tk acc hk hacc
  show wpAny _ _ (Builtin.Tuple.tupleExact acc.toList.toArray >>= fun v => ret v) _ _ _
  unfold Builtin.Tuple.tupleExact
  refine wpAny_bind (wpAny_newObj_type ?_ (by show acc.toList.toArray.size ≤ sizeLine; simp only [Array.toArray_toList]; rw [hacc.1]; exact hsz))
  refine wpAny_pure ?_
  have e : acc.toList.toArray = acc := by simp
  rw [e]
  exact h h' tk acc hk hacc
theorem call_tuple_d {Q : Value → Shared → Prop} (K : PySem.W.KdlSrc prog w T r d n P OK) (hh : A.handled = none) (hok : OK s.heap) (hT : s.TypeIs (.ref r) T) (ne : T ≠ "tuple")
    (h : ∀ (h' : Heap) (tk : Nat) (acc : Array Value), (∀ b o, s.heap.get? b = some o → h'.get? b = some o) → ItemsOf P acc n → Q (.ref h'.objs.size) { s with heap := h'.push { cls := .type "tuple", data := .seq acc }, toks := tk }) (hsz : n ≤ sizeLine) :
    wpAny (model prog w) A (call (.type "tuple") [.ref r]) Q E s := by
  refine callType_codes (Q₁ := fun obj s₁ => s₁.TypeIs obj "tuple" ∧ Q obj s₁) F.called_tuple (F.typeCall_tuple_1 _) F.entry_object_init
    (code_tuple_new_d (A := A.in1) K hh hok hT ne (fun h' tk acc hm hacc => ⟨⟨_, Heap.get?_push_size _ rfl, rfl⟩, h h' tk acc hm hacc⟩) hsz) fun obj s₁ h₁ => ?_
  exact ⟨h₁.1, F.args_object_init_2 obj _, object_init_meets F.called_tuple.init.lookup F.called_tuple.made (by decide) prog w A.in1 _ s₁ ⟨h₁.1, rfl, h₁.2⟩⟩
/-- bool(x) by truth -/
theorem code_bool_t {x : Value} {Q₁ : Value → Shared → Prop} (h : wpAny (model prog w) A.in1 (truthy x) (fun b s' => Q₁ (.bool b) s') (fun e s' => wants Q₁ E (.error e) s') s) :
    codeAny (model prog w) A (.call (.builtin "bool.__new__") ⟨[.type "bool", x], []⟩) (wants Q₁ E) s := by
  refine codeAny_of_tree ?_
  show wpAny _ A.in1 (do checkBuiltinCall "bool.__new__" ⟨[.type "bool", x], []⟩; again (.builtin "bool.__new__" ⟨[.type "bool", x], []⟩)) _ _ s
  refine wpAny_bind (wpAny_of_eq (F.newCall_bool_1 x) (wpAny_pure ⟨plainId_quiet (by decide +kernel) _, codeAny_builtin F.entry_bool_new ?_⟩))
  rw [Around.under_plainId (by decide +kernel) _]
  have f1 := F.conv_sub_bool
  wp_walk using h
  show wpAny _ _ (truthy x) _ _ _
  exact wpAny_mono h (fun b s' hb => wpAny_pure hb) fun _ _ z => z
theorem call_bool_t {x : Value} {Q : Value → Shared → Prop} (h : wpAny (model prog w) A.in1.in1 (truthy x) (fun b s' => Q (.bool b) s') E s) : wpAny (model prog w) A (call (.type "bool") [x]) Q E s := by
  refine callType_codes (Q₁ := fun obj s₁ => s₁.TypeIs obj "bool" ∧ Q obj s₁) F.called_bool (F.typeCall_bool_1 _) F.entry_object_init
    (code_bool_t (A := A.in1) (wpAny_mono h (fun b s' hb => ⟨rfl, hb⟩) fun _ _ z => z)) fun obj s₁ h₁ => ?_
  exact ⟨h₁.1, F.args_object_init_2 obj _, object_init_meets F.called_bool.init.lookup F.called_bool.made F.newNe_bool prog w A.in1 _ s₁ ⟨h₁.1, rfl, h₁.2⟩⟩
end
end PySem
namespace KwX
open PySem PySem.Spec PySem.Calls PyProof.Rows L2 StX
section
variable {X : Cx} {CX : CXT} {n : Nat} {f C : Addr} {sp : Sp} {E : XK}
/-- tuple(d): its keys -/
def rTupleD : List V → Hp → VK → Prop := fun xs H Q => ∃ (a : Addr) (kvs : List (Key × V)), xs = [.ref a] ∧ Rd H a (.dK kvs) ∧ ∀ p, H p = none → Q (.ref p) (upd H p (.tup (kvs.map fun kv => kV kv.1)))
theorem call_tupleD (hcalm : X.calm = true) : CallR X (.type "tuple") rTupleD := by
  intro pins s σ H xs us Q I r q
  obtain ⟨a, kvs, ex, hd, q⟩ := q
  subst ex
  obtain ⟨u, eu, rx⟩ := vals1 r
  subst eu
  cases rx
  obtain ⟨z, lo, vs, rel, dd⟩ := dk_rd I.hok hd
  obtain ⟨ep, hat⟩ := dd.dictAt
  have ek : (kvs.map fun kv => kV kv.1) = vs.map fun p => kV p.1 := by
    have e := congrArg (List.map kV) rel.keys
    rw [List.map_map, List.map_map] at e
    exact e
  refine call_tuple_d (PySem.W.kdl_dict (knd := mixKind X.prog X.w) (kvs := vs) (ep := ep) lo) (I.ok.hd hcalm) hat dd.typeIs (by decide) (fun h' tk acc hk hacc => ?_) (by rw [← rel.length]; exact z)
  have hv : Vals (vs.map fun p => kV p.1) acc.toList := keys_at (by rw [Array.length_toList]; exact hacc.1) fun j v e => hacc.2 j v (by rw [← Array.getElem?_toList]; exact e)
  have I1 : Inv X pins σ H { s with heap := h', toks := tk } := I.kept (t' := tk) hk
  have hz : (kvs.map fun kv => kV kv.1).length ≤ sizeLine := by rw [List.length_map]; exact z
  have I2 : Inv X pins σ (upd H h'.objs.size (.tup (kvs.map fun kv => kV kv.1))) { s with heap := h'.push { cls := .type "tuple", data := .seq acc }, toks := tk } := by
    refine I1.laid (t' := tk) (fun b o e => Heap.get?_push_of_some _ e) (Nat.le_refl _) (show ObjOk X.prog X.w _ _ _ (.tup (kvs.map fun kv => kV kv.1)) from ⟨hz, acc.toList, by rw [ek]; exact hv, ?_⟩)
    cases acc with
    | mk its => exact IsTup.new _ _
  exact ⟨.ref h'.objs.size, _, I2, rfl, q _ (I1.hok.fresh (Nat.le_refl _))⟩
/-- bool(d) -/
def rBoolD : List V → Hp → VK → Prop := fun xs H Q => ∃ (a : Addr) (kvs : List (Key × V)), xs = [.ref a] ∧ H a = some (.dK kvs) ∧ Q (.bl (!kvs.isEmpty)) H
theorem call_boolD : CallR X (.type "bool") rBoolD := by
  intro pins s σ H xs us Q I r q
  obtain ⟨a, kvs, ex, hd, q⟩ := q
  subst ex
  obtain ⟨u, eu, rx⟩ := vals1 r
  subst eu
  cases rx
  obtain ⟨z, lo, vs, rel, dd⟩ := dk_rd I.hok (.inl hd)
  have hl := line63
  have hlen := rel.length
  refine call_bool_t (wpAny_truthy_dict lo dd (by omega) ?_)
  refine ⟨.bl (!kvs.isEmpty), H, I.tok _, ?_, q⟩
  show Value.bool (!vs.isEmpty) = Value.bool (!kvs.isEmpty)
  cases kvs with
  | nil => cases vs with
    | nil => rfl
    | cons _ _ => simp at hlen
  | cons _ _ => cases vs with
    | nil => simp at hlen
    | cons _ _ => rfl
/-- bool(o) -/
theorem call_boolO (O : OwnD X.K C "__bool__" f) (F : FnR X.prog X.w X.K X.mg X.base CX n f sp) (hr : Room (n + 2) X.A) (hx : Passes CX X E) : CallR X (.type "bool") (rBoolO C sp E) := by
  intro pins s σ H xs us Q I r h
  obtain ⟨a, rfl, ha, hs⟩ := h
  obtain ⟨u, rfl, ru⟩ := vals1 r
  obtain rfl : u = Value.ref a := ru
  obtain ⟨ox, od, J⟩ := inst_of I ha
  obtain ⟨m, hF⟩ := I.fr
  have sb : Sub X n X.A.in1.in1 := (sub1 (n := n + 1) hr).in1
  refine call_bool_t (PySem.W.truthy_K hF I.ok.mod.kin J O.fi O.fn (thn (run_at sb (us := [.ref a]) (vs := [.ref a]) F hx I (.cons rfl .nil) hs) fun v s' hv => ?_))
  obtain ⟨x, H', I', rx, b, rfl, q⟩ := hv
  obtain rfl := rx
  exact ⟨.bl b, H', I', rfl, q⟩
end
end KwX

/-! C.m(k = v): a class method by keywords alone -/
namespace KwX
open PySem PySem.Spec PySem.Calls PyProof.Rows L2 StX ClX
section
variable {X : Cx} {CX : CXT} {k : Nat} {C p g : Addr} {mc : Value} {sp : Sp} {E : XK} {o : Expr} {kws : List Keyword} {m : Str} {pos apos : Pos} {ta : TE} {tk : TA} {pl : Sem Bool} {fd : FuncData} {ps ks : List Str} {gg : List Value → List Value → List Value} {gV : List V → List V → List V}
def tCMethK (C : Addr) (sp : Sp) (gV : List V → List V → List V) (E : XK) (ta : TE) (tk : TA) : TE := fun σ H Q => ta σ H fun x H1 => x = .ref C ∧ tk σ H1 fun zs H2 => sp (gV [.ref C] zs) H2 Q E
theorem run_cmK {q : Addr} {Q : VK} {ws : List Value} {zs : List V} {pins : List (Addr × Obj)} {σ : L2.St} {H : Hp} {s : Shared} (F : FnOk X.prog X.w X.K X.mg X.base CX k g fd ps sp) (hr : Room k X.A) (hb : KBinds X.K fd ps ks gg gV) (hx : Passes CX X E) (I : Inv X ((q, PySem.W.methodObj (.ref g) (.ref C)) :: pins) σ H s)
    (r : Vals zs ws) (h : sp (gV [.ref C] zs) H Q E) : wpAny (model X.prog X.w) X.A (call (.ref q) [] (ks.zip ws)) (EP X pins σ Q) X.xe s := by
  have r1 : Vals [V.ref C] [Value.ref C] := .cons rfl .nil
  have r2 := hb.rel r1 r
  have hl : (gg [.ref C] ws).length = ps.length := by rw [← r2.length]; exact F.len _ _ _ _ h
  have z : wpAny (model X.prog X.w) X.A (call (.ref q) [] (ks.zip ws)) (EP X ((q, PySem.W.methodObj (.ref g) (.ref C)) :: pins) σ Q) X.xe s := by
    refine wpAny_call (PySem.W.method_call (pin_at I) (codeAny_mono (F.run X.A X.stack s H ⟨[.ref C], ks.zip ws⟩ (gg [.ref C] ws) (gV [.ref C] zs) Q E hr I.env0 (hb.to s [.ref C] ws I.kIn hl) r2 h) fun r s' hq => ?_))
    cases r with
    | error e => exact hx _ σ H s e s' I hq
    | ok fl =>
      cases fl with
      | ret u => exact I.after hq
      | next => exact False.elim hq
      | brk => exact False.elim hq
      | cont => exact False.elim hq
  exact thn z fun _ _ y => unpinE y
theorem pe_cmethKw (he : PE X o ta) (r : CRead X.K C mc) (c : CMet X.K C mc m p g) (F : FnOk X.prog X.w X.K X.mg X.base CX k g fd ps sp) (hr : Room k X.A) (hb : KBinds X.K fd ps ks gg gV) (hx : Passes CX X E) (hkw : PK X kws tk)
    (hall : (backToKw pos (keywordEach kws X.env)).all (·.1.isSome) = true := by rfl) (hks : (backToKw pos (keywordEach kws X.env)).filterMap (·.1) = ks := by rfl)
    (hpl : ((backTo pos (starEach [] X.env)).any (·.1) || (backToKw pos (keywordEach kws X.env)).any (·.1.isNone)) = false := by rfl)
    (ht : eval (.Call (.Attribute o m apos) [] kws pos) X.env = (do
      let ov ← eval o X.env
      standAt apos.atName
      let (f, first) ← holding [ov] (getMethod ov m pl)
      callWith pos f first (backTo pos (starEach [] X.env)) (backToKw pos (keywordEach kws X.env))) := by rfl) :
    PE X (.Call (.Attribute o m apos) [] kws pos) (tCMethK C sp gV E ta tk) := by
  refine ⟨fun pins s σ H Q I h => ?_⟩
  refine PySem.W.methodCall_KW (pl := pl) (thn (he.run pins s σ H _ I h) fun u s1 ⟨x, H1, I1, rx, ex, q⟩ => ?_) ht
  subst ex
  obtain rfl : u = Value.ref C := rx
  refine getmethcm_ok I1 r c fun s2 I2 => ?_
  refine PySem.W.callWith_of hpl (PySem.W.keeps_M c.fi) (evalArgs_kw2_nil hall (thn (hkw.run pos _ s2 σ H1 _ I2 q) fun ws s3 ⟨zs, H2, I3, rz, q2⟩ => ⟨⟨pin_at I3, I3.kIn⟩, ?_⟩))
  rw [hks]
  exact run_cmK F hr hb hx I3 rz q2
end
end KwX

/-! C.m(), C.m(e, ..): a static method -/
namespace KwX
open PySem PySem.Spec PySem.Calls PyProof.Rows L2 StX ClX
/-- C.m is a static method: its record at p, its def at g -/
structure SMet (K : PySem.W.Frag) (C : Addr) (mc : Value) (m : Str) (p g : Addr) : Prop where
  at_ : PySem.W.findCls K (.ref C) mc m = some (.get (.builtin "staticmethod.__get__") (.ref p) .none (.ref C))
  rc : ∃ rest, PySem.W.recIn K p "staticmethod" = some (.ref g :: rest)
  kp : PySem.W.keepIn K (.ref g) = true
section
variable {X : Cx} {CX : CXT} {k : Nat} {C p g : Addr} {mc : Value} {sp : Sp} {E : XK} {o e : Expr} {es : List Expr} {m : Str} {pos apos : Pos} {ta : TE} {t : TA} {pl : Sem Bool}
def tSMeth (C : Addr) (sp : Sp) (E : XK) (ta : TE) (t : TA) : TE := fun σ H Q => ta σ H fun x H1 => x = .ref C ∧ t σ H1 fun vs H2 => sp vs H2 Q E
theorem pe_smeth0 (he : PE X o ta) (r : CRead X.K C mc) (c : SMet X.K C mc m p g) (F : FnR X.prog X.w X.K X.mg X.base CX k g sp) (hr : Room k X.A) (hx : Passes CX X E)
    (ht : eval (.Call (.Attribute o m apos) [] [] pos) X.env = (do
      let ov ← eval o X.env
      standAt apos.atName
      let (f, first) ← holding [ov] (getMethod ov m pl)
      callWith pos f first (backTo pos (starEach [] X.env)) (backToKw pos (keywordEach [] X.env))) := by rfl) :
    PE X (.Call (.Attribute o m apos) [] [] pos) (tSMeth C sp E ta tNil) := by
  refine ⟨fun pins s σ H Q I h => ?_⟩
  refine PySem.W.methodCall_KW (pl := pl) (thn (he.run pins s σ H _ I h) fun u s1 ⟨x, H1, I1, rx, ex, q⟩ => ?_) ht
  subst ex
  obtain rfl : u = Value.ref C := rx
  obtain ⟨rest, hp⟩ := c.rc
  refine PySem.W.method_cls I1.kIn r.ga ?_
  refine PySem.W.cls_bind I1.kIn r.rd c.at_ (wpAny_call (PySem.W.sm_get (s := { s1 with toks := s1.toks + 1 }) I1.kIn hp (PySem.W.handed_on rfl ?_)))
  have I2 := I1.tok (s1.toks + 1)
  refine PySem.W.callWith_K0 (first := []) I2.kIn c.kp ?_
  exact wpAny_call (run_fnR (us := []) (vs := []) F hr hx I2 .nil q)
theorem pe_smeth (he : PE X o ta) (r : CRead X.K C mc) (c : SMet X.K C mc m p g) (F : FnR X.prog X.w X.K X.mg X.base CX k g sp) (hr : Room k X.A) (hx : Passes CX X E) (ha : PA X (e :: es) t)
    (hst : starEach (e :: es) X.env = (false, eval e X.env) :: starEach es X.env := by rfl) (hpl : (backTo pos (starEach es X.env)).any (·.1) = false := by rfl)
    (ht : eval (.Call (.Attribute o m apos) (e :: es) [] pos) X.env = (do
      let ov ← eval o X.env
      standAt apos.atName
      let (f, first) ← holding [ov] (getMethod ov m pl)
      callWith pos f first (backTo pos (starEach (e :: es) X.env)) (backToKw pos (keywordEach [] X.env))) := by rfl) :
    PE X (.Call (.Attribute o m apos) (e :: es) [] pos) (tSMeth C sp E ta t) := by
  refine ⟨fun pins s σ H Q I h => ?_⟩
  refine PySem.W.methodCall_KW (pl := pl) (thn (he.run pins s σ H _ I h) fun u s1 ⟨x, H1, I1, rx, ex, q⟩ => ?_) ht
  subst ex
  obtain rfl : u = Value.ref C := rx
  obtain ⟨rest, hp⟩ := c.rc
  refine PySem.W.method_cls I1.kIn r.ga ?_
  refine PySem.W.cls_bind I1.kIn r.rd c.at_ (wpAny_call (PySem.W.sm_get (s := { s1 with toks := s1.toks + 1 }) I1.kIn hp (PySem.W.handed_on rfl ?_)))
  have I2 := I1.tok (s1.toks + 1)
  refine PySem.W.callWith_K (first := []) (h₀ := X.base) I2.ok.mod.kin c.kp (thn (ha.run pos pins _ σ H1 _ I2 q) fun us s2 ⟨vs, H2, I3, rv, q2⟩ => ⟨I3.kIn, ?_⟩) hst hpl
  exact wpAny_call (run_fnR (us := us) (vs := vs) F hr hx I3 rv q2)
end
end KwX

/-! text * int; {..} != {..} over ints; a class method in a try's body; fields and class of an error that was kept -/
namespace KwX
open PySem PySem.Spec PySem.Calls PyProof.Rows L2 StX ClX
section
variable {X : Cx}
def rRepS : R2 := fun x y H Q => ∃ a k, x = .str a ∧ y = .int k ∧ MulOk a k ∧ Q (.str (PySem.Txt.mul a k)) H
theorem op_repS : OpR X (binaryOp .Mult) rRepS := by
  intro pins s σ H x y v u Q I rx ry h
  obtain ⟨a, k, rfl, rfl, ok, q⟩ := h
  obtain ⟨t, rfl⟩ := rx
  obtain ⟨t', rfl⟩ := ry
  exact PySem.SB.mul ok fun t2 k2 => ⟨.str (PySem.Txt.mul a k), H, I.tok _, ⟨_, rfl⟩, q⟩
def rNeDI : R2 := fun x y H Q => ∃ a b ks ls, x = .ref a ∧ y = .ref b ∧ H a = some (.dK ks) ∧ H b = some (.dK ls) ∧ (∀ p ∈ ks, ∃ i, p.2 = V.int i) ∧ (∀ k v, valV ls k = some v → ∃ i, v = V.int i) ∧ Q (.bl (!(ks.length == ls.length && ks.all (hitI ls)))) H
theorem op_neDI (hu : X.A.units < cLine) : OpR X (compareOp .NotEq) rNeDI := by
  intro pins s σ H x y v u Q I rx ry h
  obtain ⟨a, b, ks, ls, rfl, rfl, ea, eb, hk, hl, q⟩ := h
  obtain rfl : v = Value.ref a := rx
  obtain rfl : u = Value.ref b := ry
  obtain ⟨_, ya, va, ra, da⟩ := (show ObjOk X.prog X.w H s.heap a (.dK ks) from I.hok a _ ea)
  obtain ⟨_, yb, vb, rb, db⟩ := (show ObjOk X.prog X.w H s.heap b (.dK ls) from I.hok b _ eb)
  rw [ra.length, rb.length] at q
  exact PySem.W.keq_ne (knd := mixKind X.prog X.w) (r := ks.all (hitI ls)) ya yb da db hu (fun _ => hits_int rb hl ra hk) (fin_bl I q rfl)
end
section
variable {X : Cx} {CX : CXT} {k : Nat} {C p g : Addr} {mc : Value} {sp : Sp} {o e : Expr} {es : List Expr} {f m : Str} {pos apos : Pos} {ta : TE} {t : TA} {pl : Sem Bool} {pins : List (Addr × Obj)} {σ : L2.St} {H : Hp} {s : Shared}
/-- e.m(..), e the class at C, m a class method that may raise -/
def tCMethS (C : Addr) (sp : Sp) (E : L2.St → XK) (ta : TE) (t : TA) : TE := fun σ H Q => ta σ H fun x H1 => x = .ref C ∧ t σ H1 fun vs H2 => sp (.ref C :: vs) H2 Q (E σ)
theorem run_fnRS {E : XK} {f : Addr} {Q : VK} {us : List Value} {vs : List V} (F : FnR X.prog X.w X.K X.mg X.base CX k f sp) (hr : Room k X.A) (hx : PassesAt CX X σ E) (I : Inv X pins σ H s) (r : Vals vs us) (h : sp vs H Q E) :
    codeAny (model X.prog X.w) X.A (.call (.ref f) ⟨us, []⟩) (fun r s' => match r with | .ok (.ret v) => EP X pins σ Q v s' | .ok _ => False | .error e => X.xe e s') s := by
  refine codeAny_mono (F X.A X.stack s H us vs Q E hr I.env0 r h) fun r s' hq => ?_
  cases r with
  | error e => exact hx pins H s e s' I hq
  | ok fl =>
    cases fl with
    | ret u => exact I.after hq
    | next => exact False.elim hq
    | brk => exact False.elim hq
    | cont => exact False.elim hq
theorem run_cmS {E : XK} {q : Addr} {Q : VK} {us : List Value} {vs : List V} (F : FnR X.prog X.w X.K X.mg X.base CX k g sp) (hr : Room k X.A) (hx : PassesAt CX X σ E) (I : Inv X ((q, PySem.W.methodObj (.ref g) (.ref C)) :: pins) σ H s)
    (r : Vals vs us) (h : sp (.ref C :: vs) H Q E) : wpAny (model X.prog X.w) X.A (call (.ref q) us) (EP X pins σ Q) X.xe s := by
  have z : wpAny (model X.prog X.w) X.A (call (.ref q) us) (EP X ((q, PySem.W.methodObj (.ref g) (.ref C)) :: pins) σ Q) X.xe s :=
    wpAny_call (PySem.W.method_call (pin_at I) (run_fnRS (us := .ref C :: us) (vs := .ref C :: vs) F hr hx I (.cons rfl r) h))
  exact thn z fun _ _ y => unpinE y
theorem pe_cmethS {E : L2.St → XK} (he : PE X o ta) (r : CRead X.K C mc) (c : CMet X.K C mc m p g) (F : FnR X.prog X.w X.K X.mg X.base CX k g sp) (hr : Room k X.A) (hx : ∀ σ, PassesAt CX X σ (E σ)) (ha : PA X (e :: es) t)
    (hst : starEach (e :: es) X.env = (false, eval e X.env) :: starEach es X.env := by rfl) (hpl : (backTo pos (starEach es X.env)).any (·.1) = false := by rfl)
    (ht : eval (.Call (.Attribute o m apos) (e :: es) [] pos) X.env = (do
      let ov ← eval o X.env
      standAt apos.atName
      let (f, first) ← holding [ov] (getMethod ov m pl)
      callWith pos f first (backTo pos (starEach (e :: es) X.env)) (backToKw pos (keywordEach [] X.env))) := by rfl) :
    PE X (.Call (.Attribute o m apos) (e :: es) [] pos) (tCMethS C sp E ta t) := by
  refine ⟨fun pins s σ H Q I h => ?_⟩
  refine PySem.W.methodCall_KW (pl := pl) (thn (he.run pins s σ H _ I h) fun u s1 ⟨x, H1, I1, rx, ex, q⟩ => ?_) ht
  subst ex
  obtain rfl : u = Value.ref C := rx
  refine getmethcm_ok I1 r c fun s2 I2 => ?_
  refine callwith_cm I2 (base_none I1 (Nat.le_refl _)) c.fi (thn (ha.run pos _ s2 σ H1 _ I2 q) fun us s3 ⟨vs, H2, I3, rv, q2⟩ => ⟨⟨pin_at I3, I3.kIn⟩, ?_⟩) hst hpl
  exact run_cmS F hr (hx σ) I3 rv q2
end
section
variable {X : Cx}
theorem caught_at {P : Program} {w : World} {H : Hp} {h : Heap} {a : Addr} {cls : Value} {d : Option Addr} (hok : HOk P w H h) (he : H a = some (Caught cls d a)) : ∃ oe vs, h.get? a = some oe ∧ Zc cls d oe ∧ oe.data = .fields vs := by
  have x : ObjOk P w H h a (.ext fun h => ∃ oe vs, h.get? a = some oe ∧ Zc cls d oe ∧ oe.data = .fields vs) := hok a _ he
  exact x.1
/-- an error that was kept, of the class at C, with these fields -/
structure Kept1 (C a : Addr) (fs : List (Str × V)) (H : Hp) : Prop where
  ex : ∃ d, H a = some (Caught (.ref C) (some d) a) ∧ H d = some (.xd fs)
theorem kept_inst {C a : Addr} {fs : List (Str × V)} {pins : List (Addr × Obj)} {σ : L2.St} {H : Hp} {s : Shared} (I : Inv X pins σ H s) (k : Kept1 C a fs H) :
    ∃ (oe od : Obj) (mA : Str → Option Value), PySem.W.InstAt s.heap a oe C (some od) ∧ (∀ name, PySem.W.lookIn name od = some (mA name)) ∧ ∀ f, RelO (fs.lookup f) (mA f) := by
  obtain ⟨d, e1, e2⟩ := k
  obtain ⟨oe, vs, ho, hz, hd⟩ := caught_at I.hok e1
  have hx : ObjOk X.prog X.w H s.heap d (.xd fs) := I.hok d _ e2
  obtain ⟨mA, hns, hr⟩ := hx
  obtain ⟨od, hod, hl⟩ := lookIn_ns hns
  exact ⟨oe, od, mA, ⟨ho, hz.1, by unfold PySem.W.notCls; rw [hd] <;> rfl, by rw [hz.2]; exact hod⟩, hl, hr⟩
/-- e.f of such an error -/
def tFldC (K : PySem.W.Frag) (f : Str) (te : TE) : TE := fun σ H Q => te σ H fun x H1 => ∃ (a C : Addr) (fs : List (Str × V)) (v : V), x = .ref a ∧ EvX.AskC K C ∧ PySem.W.findIn K (.ref C) f = some none ∧ Kept1 C a fs H1 ∧ fs.lookup f = some v ∧ Q v H1
theorem pe_fldC {e : Expr} {te : TE} {pos : Pos} {f : Str} (he : PE X e te) (hb : attributeBase e f X.env (eval e X.env) = eval e X.env := by rfl) : PE X (.Attribute e f pos) (tFldC X.K f te) := by
  refine ⟨fun pins s σ H Q I h => ?_⟩
  refine attr_of hb (thn (he.run pins s σ H _ I h) ?_)
  rintro u s1 ⟨x, H1, I1, rx, a, C, fs, v, rfl, T, hno, kp, l, q⟩
  obtain rfl : u = Value.ref a := rx
  obtain ⟨oe, od, mA, J, hl, hr⟩ := kept_inst I1 kp
  obtain ⟨w, hw, rw'⟩ := RelO.some_of (v := v) (o := mA f) (by rw [← l]; exact hr f)
  exact HandSPX.exc_get I1.kIn J T.ga T.gg T.exC (PySem.W.findObj_own T.hd hno rfl (by rw [hl, hw])) (handed_of rw') ⟨v, H1, I1.tok _, rw', q⟩
/-- isinstance(e, c) of such an error -/
def rAskC (K : PySem.W.Frag) : List V → Hp → VK → Prop := fun xs H Q => ∃ (a C : Addr) (fs : List (Str × V)) (c : V) (cv : Value) (b : Bool), xs = [.ref a, c] ∧ (∀ u, RelV c u → u = cv) ∧ EvX.AskC K C ∧ Kept1 C a fs H ∧ PySem.W.kitOne K (.ref C) cv = some b ∧ Q (.bl b) H
theorem call_askC : CallR X (.builtin "isinstance") (rAskC X.K) := by
  intro pins s σ H xs us Q I r h
  obtain ⟨a, C, fs, c, cv, b, rfl, hcv, T, kp, e, q⟩ := h
  obtain ⟨oe, od, mA, J, _, _⟩ := kept_inst I kp
  obtain ⟨cd, hc, _⟩ := PySem.W.any_some T.hd
  have own : (PySem.W.clsIn X.K C).isSome = true := by
    rw [hc]
    rfl
  cases r with
  | cons rx rr =>
    cases rr with
    | cons rt rr =>
      cases rr
      cases rx
      have ec := hcv _ rt
      subst ec
      have fin : ∀ tk, EP X pins σ Q (.bool b) { s with toks := tk } := fun tk => ⟨.bl b, H, I.kept (t' := tk) fun _ _ z => z, rfl, q⟩
      exact PySem.W.kia_one (PySem.W.kitx_exc own T.ga T.gg T.exC T.ca T.cn T.ct T.cm) I.kIn J e (fun z => nomatch z) fin
theorem g_cmS {C : Addr} {sp : Sp} {E : L2.St → XK} {ta : TE} {t : TA} {σ : L2.St} {H : Hp} {Q : VK} (h : ta σ H fun x H1 => x = .ref C ∧ t σ H1 fun vs H2 => sp (.ref C :: vs) H2 Q (E σ)) : tCMethS C sp E ta t σ H Q := h
theorem g_fldC {K : PySem.W.Frag} {f : Str} {te : TE} {σ : L2.St} {H : Hp} {Q : VK} (h : te σ H fun x H1 => ∃ (a C : Addr) (fs : List (Str × V)) (v : V), x = .ref a ∧ EvX.AskC K C ∧ PySem.W.findIn K (.ref C) f = some none ∧ Kept1 C a fs H1 ∧ fs.lookup f = some v ∧ Q v H1) : tFldC K f te σ H Q := h
end
end KwX

namespace K5
open PySem PySem.Spec PyProof.Rows L2 EvG EvX VecX KwX
def top (i : Nat) : Stmt := PySem.Challenge.pw_evenends_k05_vectors_written_and_read.main.body.getD i (.Pass ⟨0, 0, 0, 0⟩)
abbrev s_is_name : Stmt := (top 7)
abbrev N_is_name : List Str := ["value"]
theorem sc_is_name : FnScope N_is_name ["value"] (defScope s_is_name) := ⟨rfl, rfl, rfl, by decide +kernel, rfl, by decide +kernel, by decide +kernel⟩
abbrev s_is_integer : Stmt := (top 8)
abbrev N_is_integer : List Str := ["value"]
theorem sc_is_integer : FnScope N_is_integer ["value"] (defScope s_is_integer) := ⟨rfl, rfl, rfl, by decide +kernel, rfl, by decide +kernel, by decide +kernel⟩
abbrev s_gives_integers : Stmt := (top 9)
abbrev N_gives_integers : List Str := ["value", "name"]
theorem sc_gives_integers : FnScope N_gives_integers ["value"] (defScope s_gives_integers) := ⟨rfl, rfl, rfl, by decide +kernel, rfl, by decide +kernel, by decide +kernel⟩
abbrev s_kept_numbers : Stmt := (top 10)
abbrev N_kept_numbers : List Str := ["numbers", "name"]
theorem sc_kept_numbers : FnScope N_kept_numbers ["numbers"] (defScope s_kept_numbers) := ⟨rfl, rfl, rfl, by decide +kernel, rfl, by decide +kernel, by decide +kernel⟩
abbrev s_line_of : Stmt := (top 14)
abbrev N_line_of : List Str := ["text"]
theorem sc_line_of : FnScope N_line_of ["text"] (defScope s_line_of) := ⟨rfl, rfl, rfl, by decide +kernel, rfl, by decide +kernel, by decide +kernel⟩
abbrev s_read_number : Stmt := (top 15)
abbrev N_read_number : List Str := ["word", "most", "digits"]
theorem sc_read_number : FnScope N_read_number ["word", "most"] (defScope s_read_number) := ⟨rfl, rfl, rfl, by decide +kernel, rfl, by decide +kernel, by decide +kernel⟩
abbrev s_read_numbers : Stmt := (top 16)
abbrev N_read_numbers : List Str := ["line", "start", "most", "numbers", "last", "at", "name", "_", "digits", "number"]
theorem sc_read_numbers : FnScope N_read_numbers ["line", "start", "most"] (defScope s_read_numbers) := ⟨rfl, rfl, rfl, by decide +kernel, rfl, by decide +kernel, by decide +kernel⟩
abbrev s_read_vector : Stmt := (top 17)
abbrev N_read_vector : List Str := ["line", "start"]
theorem sc_read_vector : FnScope N_read_vector ["line", "start"] (defScope s_read_vector) := ⟨rfl, rfl, rfl, by decide +kernel, rfl, by decide +kernel, by decide +kernel⟩
abbrev s_numbers_text : Stmt := (top 18)
abbrev N_numbers_text : List Str := ["numbers", "name"]
theorem sc_numbers_text : FnScope N_numbers_text ["numbers"] (defScope s_numbers_text) := ⟨rfl, rfl, rfl, by decide +kernel, rfl, by decide +kernel, by decide +kernel⟩
abbrev s_vector_text : Stmt := (top 22)
abbrev N_vector_text : List Str := ["numbers"]
theorem sc_vector_text : FnScope N_vector_text ["numbers"] (defScope s_vector_text) := ⟨rfl, rfl, rfl, by decide +kernel, rfl, by decide +kernel, by decide +kernel⟩
abbrev s_law_pen : Stmt := (top 24)
abbrev N_law_pen : List Str := ["_law_script"]
theorem sc_law_pen : FnScope N_law_pen ["_law_script"] (defScope s_law_pen) := ⟨rfl, rfl, rfl, by decide +kernel, rfl, by decide +kernel, by decide +kernel⟩
abbrev s_law_draw : Stmt := (top 25)
abbrev N_law_draw : List Str := ["_law_pen_here", "_law_many", "_law_digit", "_law_at", "_law_cell", "_law_great_here", "_law_mixed"]
theorem sc_law_draw : FnScope N_law_draw ["_law_pen_here", "_law_many"] (defScope s_law_draw) := ⟨rfl, rfl, rfl, by decide +kernel, rfl, by decide +kernel, by decide +kernel⟩
abbrev s_law_pick : Stmt := (top 26)
abbrev N_law_pick : List Str := ["_law_pen_here", "_law_some"]
theorem sc_law_pick : FnScope N_law_pick ["_law_pen_here", "_law_some"] (defScope s_law_pick) := ⟨rfl, rfl, rfl, by decide +kernel, rfl, by decide +kernel, by decide +kernel⟩
abbrev s_law_word : Stmt := (top 27)
abbrev N_law_word : List Str := ["_law_pen_here", "_law_letters", "_law_many", "_law_word_here", "_law_k"]
theorem sc_law_word : FnScope N_law_word ["_law_pen_here"] (defScope s_law_word) := ⟨rfl, rfl, rfl, by decide +kernel, rfl, by decide +kernel, by decide +kernel⟩
abbrev s_law_great : Stmt := (top 28)
abbrev N_law_great : List Str := ["_law_pen_here", "_law_most", "_law_found", "_law_turn"]
theorem sc_law_great : FnScope N_law_great ["_law_pen_here", "_law_most"] (defScope s_law_great) := ⟨rfl, rfl, rfl, by decide +kernel, rfl, by decide +kernel, by decide +kernel⟩
abbrev s_law_whole : Stmt := (top 29)
abbrev N_law_whole : List Str := ["_law_pen_here", "_law_great_here"]
theorem sc_law_whole : FnScope N_law_whole ["_law_pen_here"] (defScope s_law_whole) := ⟨rfl, rfl, rfl, by decide +kernel, rfl, by decide +kernel, by decide +kernel⟩
abbrev s_law_is_name : Stmt := (top 30)
abbrev N_law_is_name : List Str := ["_law_thing", "_law_sign"]
theorem sc_law_is_name : FnScope N_law_is_name ["_law_thing"] (defScope s_law_is_name) := ⟨rfl, rfl, rfl, by decide +kernel, rfl, by decide +kernel, by decide +kernel⟩
abbrev s_law_is_number : Stmt := (top 31)
abbrev N_law_is_number : List Str := ["_law_digits", "_law_bare", "_law_sign"]
theorem sc_law_is_number : FnScope N_law_is_number ["_law_digits"] (defScope s_law_is_number) := ⟨rfl, rfl, rfl, by decide +kernel, rfl, by decide +kernel, by decide +kernel⟩
abbrev s_law_due : Stmt := (top 32)
abbrev N_law_due : List Str := ["_law_text_so", "_law_words", "_law_found", "_law_last", "_law_k", "_law_word_here", "_law_label", "_law_rest"]
theorem sc_law_due : FnScope N_law_due ["_law_text_so"] (defScope s_law_due) := ⟨rfl, rfl, rfl, by decide +kernel, rfl, by decide +kernel, by decide +kernel⟩
abbrev s_law_bent : Stmt := (top 33)
abbrev N_law_bent : List Str := ["_law_pen_here", "_law_words", "_law_at", "_law_way", "_law_found", "_law_label", "_law_odd", "_law_other", "_law_menu"]
theorem sc_law_bent : FnScope N_law_bent ["_law_pen_here", "_law_words"] (defScope s_law_bent) := ⟨rfl, rfl, rfl, by decide +kernel, rfl, by decide +kernel, by decide +kernel⟩
abbrev s_law_heard : Stmt := (top 34)
abbrev N_law_heard : List Str := ["_law_text_so", "_law_caught", "_law_made", "_law_label", "error"]
theorem sc_law_heard : FnScope N_law_heard ["_law_text_so"] (defScope s_law_heard) := ⟨rfl, rfl, rfl, by decide +kernel, rfl, by decide +kernel, by decide +kernel⟩
abbrev s_law_heard_right : Stmt := (top 35)
abbrev N_law_heard_right : List Str := ["_law_text_so", "_law_due_here"]
theorem sc_law_heard_right : FnScope N_law_heard_right ["_law_text_so"] (defScope s_law_heard_right) := ⟨rfl, rfl, rfl, by decide +kernel, rfl, by decide +kernel, by decide +kernel⟩
abbrev s_Vector___init__ : Stmt := (inClass (top 20) 0)
abbrev N_Vector___init__ : List Str := ["self", "numbers"]
theorem sc_Vector___init__ : FnScope N_Vector___init__ ["self", "numbers"] (defScope s_Vector___init__) := ⟨rfl, rfl, rfl, by decide +kernel, rfl, by decide +kernel, by decide +kernel⟩
abbrev s_Vector_of : Stmt := (inClass (top 20) 1)
abbrev N_Vector_of : List Str := ["cls", "numbers"]
theorem sc_Vector_of : FnScope N_Vector_of ["cls", "numbers"] (defScope s_Vector_of) := ⟨rfl, rfl, rfl, by decide +kernel, rfl, by decide +kernel, by decide +kernel⟩
abbrev s_Vector_read : Stmt := (inClass (top 20) 3)
abbrev N_Vector_read : List Str := ["cls", "text", "numbers"]
theorem sc_Vector_read : FnScope N_Vector_read ["cls", "text"] (defScope s_Vector_read) := ⟨rfl, rfl, rfl, by decide +kernel, rfl, by decide +kernel, by decide +kernel⟩
abbrev s_Vector_names : Stmt := (inClass (top 20) 4)
abbrev N_Vector_names : List Str := ["self"]
theorem sc_Vector_names : FnScope N_Vector_names ["self"] (defScope s_Vector_names) := ⟨rfl, rfl, rfl, by decide +kernel, rfl, by decide +kernel, by decide +kernel⟩
abbrev s_Vector___getitem__ : Stmt := (inClass (top 20) 5)
abbrev N_Vector___getitem__ : List Str := ["self", "at"]
theorem sc_Vector___getitem__ : FnScope N_Vector___getitem__ ["self", "at"] (defScope s_Vector___getitem__) := ⟨rfl, rfl, rfl, by decide +kernel, rfl, by decide +kernel, by decide +kernel⟩
abbrev s_Vector___eq__ : Stmt := (inClass (top 20) 15)
abbrev N_Vector___eq__ : List Str := ["self", "other"]
theorem sc_Vector___eq__ : FnScope N_Vector___eq__ ["self", "other"] (defScope s_Vector___eq__) := ⟨rfl, rfl, rfl, by decide +kernel, rfl, by decide +kernel, by decide +kernel⟩
abbrev s_Vector___str__ : Stmt := (inClass (top 20) 16)
abbrev N_Vector___str__ : List Str := ["self"]
theorem sc_Vector___str__ : FnScope N_Vector___str__ ["self"] (defScope s_Vector___str__) := ⟨rfl, rfl, rfl, by decide +kernel, rfl, by decide +kernel, by decide +kernel⟩
abbrev s_Line___init__ : Stmt := (inClass (top 13) 0)
abbrev N_Line___init__ : List Str := ["self", "index", "text"]
theorem sc_Line___init__ : FnScope N_Line___init__ ["self", "index", "text"] (defScope s_Line___init__) := ⟨rfl, rfl, rfl, by decide +kernel, rfl, by decide +kernel, by decide +kernel⟩
abbrev s_Line_word_at : Stmt := (inClass (top 13) 1)
abbrev N_Line_word_at : List Str := ["self", "at"]
theorem sc_Line_word_at : FnScope N_Line_word_at ["self", "at"] (defScope s_Line_word_at) := ⟨rfl, rfl, rfl, by decide +kernel, rfl, by decide +kernel, by decide +kernel⟩
abbrev s_Line_end_at : Stmt := (inClass (top 13) 5)
abbrev N_Line_end_at : List Str := ["self", "at"]
theorem sc_Line_end_at : FnScope N_Line_end_at ["self", "at"] (defScope s_Line_end_at) := ⟨rfl, rfl, rfl, by decide +kernel, rfl, by decide +kernel, by decide +kernel⟩
abbrev s_InvalidText___init__ : Stmt := (inClass (top 5) 0)
abbrev N_InvalidText___init__ : List Str := ["self", "line", "word"]
theorem sc_InvalidText___init__ : FnScope N_InvalidText___init__ ["self", "line", "word"] (defScope s_InvalidText___init__) := ⟨rfl, rfl, rfl, by decide +kernel, rfl, by decide +kernel, by decide +kernel⟩
abbrev s_law : Stmt := (top 36)
abbrev N_law : List Str := ["_law_script", "_law_pen_here", "_law_turn", "_law_box", "_law_again", "_law_label", "_law_words", "_law_made", "_law_shown", "_law_some", "_law_odd", "_law_told", "_law_text_so"]
theorem sc_law : FnScope N_law ["_law_script"] (defScope s_law) := ⟨rfl, rfl, rfl, by decide +kernel, rfl, by decide +kernel, by decide +kernel⟩



local macro_rules
  | `(tactic| walk_at "hlook") => `(tactic| first
    | assumption
    | exact upd_same
    | (refine' look_past ?h1 ?h2; (case h1 => walk_at "hne"); (case h2 => walk_at "hlook")))
local macro_rules
  | `(tactic| walk_at "hne") => `(tactic| first
    | assumption
    | exact Ne.symm (by assumption)
    | (refine' ne_of_none ?h1 ?h2; (case h2 => assumption); (case h1 => walk_at "hlook")))
local macro_rules
  | `(tactic| walk_at "hside") => `(tactic| first
    | exact Or.inl ⟨by decide, by decide⟩
    | exact Or.inr ⟨by decide, by decide⟩
    | exact Or.inl ⟨by omega, by omega⟩
    | exact Or.inr ⟨by omega, by omega⟩
    | (show (0 : Int) < _; first | decide | omega)
    | (show _ ≠ (0 : Int); first | decide | omega)
    | exact ⟨by decide, by decide⟩
    | exact ⟨by omega, by omega⟩
    | exact ⟨by decide, by decide, by decide⟩
    | exact ⟨by decide, by decide, by omega⟩
    | (refine pow3_ok ?_ ?_ ?_ ?_ ?_ ?_ ?_ ?_ ?_ ?_ <;> omega))
local macro_rules
  | `(tactic| walk_at "hs") => `(tactic| first
    | ((with_reducible show Ends.rt _ _ _); (with_reducible refine g_rt ?_))
    | ((with_reducible show Ends.nx _ _ _); (with_reducible refine g_nx ?_))
    | ((with_reducible refine' g_var ?h1 ?h2); (case h1 => rfl))
    | with_reducible refine g_c ?_
    | with_reducible refine g_op ?_
    | with_reducible refine g_cons ?_
    | with_reducible refine g_nil ?_
    | with_reducible refine g_cb ?_
    | with_reducible refine g_I0 ?_
    | with_reducible refine g_asg ?_
    | ((with_reducible refine' g_nameR ?h1 ?h2); (case h1 => first | (dsimp only [List.set]; exact rfl) | exact rfl))
    | with_reducible refine g_ret ?_
    | with_reducible refine g_retN ?_
    | with_reducible refine g_next ?_
    | with_reducible refine g_ifs ?_
    | with_reducible refine g_test ?_
    | with_reducible refine g_B ?_
    | with_reducible refine g_bl ?_
    | with_reducible refine g_un ?_
    | with_reducible refine g_neg ?_
    | with_reducible refine g_intI ?_
    | with_reducible refine g_intB ?_
    | with_reducible refine g_abs ?_
    | with_reducible refine g_call ?_
    | with_reducible refine g_callK ?_
    | with_reducible refine g_and ?_
    | with_reducible refine g_or ?_
    | with_reducible refine g_not ?_
    | with_reducible refine g_andV ?_
    | with_reducible refine g_orV ?_
    | with_reducible refine g_notV ?_
    | with_reducible refine g_ifx ?_
    | with_reducible refine g_tup ?_
    | with_reducible refine g_lst ?_
    | with_reducible refine g_sl ?_
    | with_reducible refine g_part ?_
    | with_reducible refine g_part1 ?_
    | with_reducible refine g_nopart ?_
    | with_reducible refine g_sub ?_
    | with_reducible refine g_drop ?_
    | with_reducible refine g_yes ?_
    | with_reducible refine g_m0 ?_
    | with_reducible refine g_rng1 ?_
    | with_reducible refine g_tyS ?_
    | with_reducible refine g_dnew ?_
    | with_reducible refine g_disp1 ?_
    | with_reducible refine g_true rfl ?_
    | with_reducible refine g_false rfl ?_
    | with_reducible refine g_for ?_
    | with_reducible refine g_lc ?_
    | with_reducible refine g_iL ?_
    | with_reducible refine g_iT ?_
    | with_reducible refine g_iS ?_
    | with_reducible refine g_atS ?_
    | with_reducible refine g_m1 ?_
    | with_reducible refine g_isStr ?_
    | with_reducible refine g_txtB ?_
    | with_reducible refine g_notInS ?_
    | with_reducible refine g_chain ?_
    | with_reducible refine g_newE ?_
    | with_reducible refine g_lstX ?_
    | with_reducible refine g_fld ?_
    | with_reducible refine g_ls ?_
    | ((with_reducible refine g_new ?_ ?_); focus (exact small_of (by simp)))
    | ((with_reducible refine g_new ?_ ?_); focus (decide))
    | ((with_reducible refine g_I ?_ ?_); focus (walk_at "hside"))
    | ((with_reducible refine g_eq ?_ ?_); focus rfl)
    | ((with_reducible refine g_ne ?_ ?_); focus rfl)
    | ((with_reducible refine' g_ixL (SqL.of ?h1) ?h2 ?h3); (case h1 => walk_at "hlook"); (case h2 => rfl))
    | ((with_reducible refine' g_lenL (SqL.of ?h1) ?h2); (case h1 => walk_at "hlook"))
    | ((with_reducible refine' g_setL ?h1 ?h2 ?h3); (case h1 => walk_at "hlook"); (case h2 => rfl)))
local macro_rules
  | `(tactic| walk_at "hx") => `(tactic| repeat (walk_at "hs"))
local macro_rules
  | `(tactic| walk_at "hline") => `(tactic| ((with_reducible refine g_seq ?_); repeat (walk_at "hs")))
local macro_rules
  | `(tactic| walk_at "hgo") => `(tactic| repeat (first | with_reducible refine g_seq ?_ | walk_at "hs"))
local macro_rules
  | `(tactic| walk_at "hm") => `(tactic| repeat (first | with_reducible refine g_seq ?_ | ((with_reducible refine g_modC ?_ ?_); focus (decide); focus (intro x hx0 hx1)) | walk_at "hs"))
open KwX ClX
/-- the pen at q: the cells, at most b draws so far -/
structure Pen (H : Hp) (q : Addr) (b : Nat) : Prop where
  ex : ∃ (c : Addr) (ns : List Int) (z left : Int), H q = some (.lst [.ref c, .int z, .int left]) ∧ H c = some (.lst (ns.map V.int)) ∧ 0 ≤ z ∧ z ≤ b ∧ 0 ≤ left ∧ ns.length ≤ 63
/-- all but q stands -/
structure But (q : Addr) (H H' : Hp) : Prop where
  st : ∀ a o, a ≠ q → H a = some o → H' a = some o
  cl : ∀ c x y, H q = some (.lst [.ref c, x, y]) → ∃ x' y', H' q = some (.lst [.ref c, x', y'])
structure TxtD (mg : Str → Option Value) : Prop where
  int : mg "int" = none
  len : mg "len" = none
  abs : mg "abs" = none
def spDraw : Sp := fun vs H Q _ => ∃ (q : Addr) (m : Int) (b : Nat), vs = [.ref q, .int m] ∧ Pen H q b ∧ b ≤ 100000 ∧ 1 ≤ m ∧ m ≤ 10000000 ∧ ∀ (d : Int) (H' : Hp), 0 ≤ d → d < m → Pen H' q (b + 1) → But q H H' → Q (.int d) H'
theorem pen_ne {H : Hp} {q c : Addr} {ns : List Int} {z left : Int} (h1 : H q = some (.lst [.ref c, .int z, .int left])) (h2 : H c = some (.lst (ns.map V.int))) : c ≠ q := by
  refine ne_of h2 h1 fun e => ?_
  cases ns with
  | nil => cases e
  | cons a r => cases e
theorem fmod_in {x m : Int} (h : 1 ≤ m) : 0 ≤ x.fmod m ∧ x.fmod m < m := by
  rw [Int.fmod_eq_emod_of_nonneg x (by omega)]
  exact ⟨Int.emod_nonneg x (by omega), Int.emod_lt_of_pos x (by omega)⟩
theorem fdiv_in {x m : Int} (h : 1 ≤ m) (hx : 0 ≤ x) : 0 ≤ x.fdiv m := by
  rw [Int.fdiv_eq_ediv_of_nonneg x (by omega)]
  exact Int.ediv_nonneg hx (by omega)
theorem But.self {q : Addr} {H : Hp} : But q H H := ⟨fun _ _ _ e => e, fun _ x y e => ⟨x, y, e⟩⟩
theorem But.trans {q : Addr} {H H1 H2 : Hp} (a : But q H H1) (b : But q H1 H2) : But q H H2 := by
  refine ⟨fun x o n e => b.st x o n (a.st x o n e), fun c x y e => ?_⟩
  obtain ⟨x', y', e'⟩ := a.cl c x y e
  exact b.cl c x' y' e'
theorem But.of {q : Addr} {H H1 : Hp} (a : Same H H1) : But q H H1 := ⟨fun x o _ e => a x o e, fun c x y e => ⟨x, y, a _ _ e⟩⟩
theorem but_upd {q c : Addr} {H : Hp} {x y x' y' : V} (h : H q = some (.lst [.ref c, x, y])) : But q H (upd H q (.lst [.ref c, x', y'])) := by
  refine ⟨fun a u n e => ?_, fun d z w e => ?_⟩
  · rw [upd_ne n]
    exact e
  · rw [h] at e
    cases e
    exact ⟨x', y', upd_same⟩
theorem But.upd {q c : Addr} {H H' : Hp} {x y x' y' : V} (b : But q H H') (h : H' q = some (.lst [.ref c, x, y])) : But q H (L2.upd H' q (.lst [.ref c, x', y'])) := b.trans (but_upd h)
theorem same_new {p : Addr} {H : Hp} {o : HO} (hp : H p = none) : Same H (L2.upd H p o) := fun a u e => by
  rw [upd_ne (ne_of_none e hp)]
  exact e
theorem But.new {q p : Addr} {H H' : Hp} {o : HO} (h : But q H H') (hp : H' p = none) : But q H (L2.upd H' p o) := h.trans (.of (same_new hp))
theorem But.free {q p : Addr} {H H' : Hp} (h : But q H H') (n : p ≠ q) (hp : H' p = none) : H p = none := by
  cases e : H p with
  | none => rfl
  | some o =>
    rw [h.st p o n e] at hp
    cases hp
theorem at_fmod {ns : List Int} (h : ns ≠ []) (x : Int) : ∃ v, atI (ns.map V.int) (x.fmod ((ns.map V.int).length : Int)) = some (.int v) := by
  have hl : 0 < ns.length := List.length_pos_iff.mpr h
  obtain ⟨h0, h1⟩ := fmod_in (x := x) (m := ((ns.map V.int).length : Int)) (by rw [List.length_map]; omega)
  obtain ⟨j, hj⟩ : ∃ j : Nat, x.fmod ((ns.map V.int).length : Int) = (j : Int) := ⟨(x.fmod ((ns.map V.int).length : Int)).toNat, by omega⟩
  rw [hj]
  rw [hj, List.length_map] at h1
  have hlt : j < ns.length := by omega
  refine ⟨ns[j], ?_⟩
  refine atI_nat ?_
  rw [List.getElem?_map, List.getElem?_eq_getElem hlt]
  rfl
section
variable {P : Program} {w : World} {K : PySem.W.Frag} {mg : Str → Option Value} {base : Heap}
theorem ok_law_draw {f : Addr} {fd : FuncData} (F : Fun K "_law_draw" "_law_draw" s_law_draw f fd) (T : TxtD mg) : FnOk P w K mg base CX0 1 f fd ["_law_pen_here", "_law_many"] spDraw := by
  refine F.ok sc_law_draw (fun vs H Q E h => ?_) (fun cdv A outer s H vs Q E hr h => ?_)
  · obtain ⟨q, m, b, rfl, _⟩ := h
    rfl
  · obtain ⟨q, m, b, rfl, ⟨c, ns, z, left, hq, hc, z0, zb, l0, len⟩, hb, m1, m2, k⟩ := h
    have hu := hu_of hr
    have ncq : c ≠ q := pen_ne hq hc
    have fm := fun x : Int => fmod_in (x := x) m1
    refine ⟨_, (pss_cons (ps_if (pt_cmpR op_gt (pe_ix ix_list (pv 0) pe_int (fun _ _ => rfl)) pe_int (nomark _)) (pss_cons (ps_set (i := 2) sc_law_draw.nd rfl (Or.inl rfl) (pe_op op_modN (pe_callTy call_intI (by rfl) T.int (by decide +kernel) (pa_cons (pe_ix ix_list (pv 0) pe_int (fun _ _ => rfl)) pa_nil)) (pv 1)))
      (pss_cons (ps_asg (pe_op op_fdivN (pe_callTy call_intI (by rfl) T.int (by decide +kernel) (pa_cons (pe_ix ix_list (pv 0) pe_int (fun _ _ => rfl)) pa_nil)) (pv 1)) (pg_sub (pv 0) pe_int set_list))
      (pss_one (ps_ret (pv 2))))) pss_nil)
      (pss_cons (ps_set (i := 3) sc_law_draw.nd rfl (Or.inl rfl) (pe_ix ix_list (pv 0) pe_int (fun _ _ => rfl)))
      (pss_cons (ps_asg (pe_op op_add (pv 3) pe_int) (pg_sub (pv 0) pe_int set_list))
      (pss_cons (ps_set (i := 4) sc_law_draw.nd rfl (Or.inl rfl) (pe_op op_add (pe_op op_mul pe_int (pv 3)) pe_int))
      (pss_cons (ps_if (pt_cmpR (op_neD (hr.units)) (pe_ix ix_list (pv 0) pe_int (fun _ _ => rfl)) (pe_lst pa_nil) (nomark _)) (pss_one (ps_set (i := 4) sc_law_draw.nd rfl (Or.inl rfl) (pe_ix ix_list (pe_ix ix_list (pv 0) pe_int (fun _ _ => rfl)) (pe_op op_modN (pe_callTy call_intI (by rfl) T.int (by decide +kernel) (pa_cons (pv 3) pa_nil)) (pe_callB call_lenL (by rfl) T.len (by decide +kernel) (pa_cons (pe_ix ix_list (pv 0) pe_int (fun _ _ => rfl)) pa_nil))) (fun _ _ => rfl)))) pss_nil)
      (pss_cons (ps_if (PW.pt (pw_and (pt_cmpR op_lt (pv 3) (pe_callB call_lenL (by rfl) T.len (by decide +kernel) (pa_cons (pe_ix ix_list (pv 0) pe_int (fun _ _ => rfl)) pa_nil)) (nomark _)) (pw_and1 (pt_cmpR op_ge (pe_callB call_absI (by rfl) T.abs (by decide +kernel) (pa_cons (pv 4) pa_nil)) (pe_op op_pow pe_int pe_int) (nomark _))))) (pss_cons (ps_set (i := 5) sc_law_draw.nd rfl (Or.inl rfl) (pe_op op_add (pe_op op_mul pe_int (pe_op op_sub (pe_callB call_absI (by rfl) T.abs (by decide +kernel) (pa_cons (pv 4) pa_nil)) (pe_op op_pow pe_int pe_int))) (pe_callTy call_intB (by rfl) T.int (by decide +kernel) (pa_cons (pe_cmpR op_lt (pv 4) pe_int (nomark _)) pa_nil))))
      (pss_cons (ps_asg (pe_op op_fdivN (pv 5) (pv 1)) (pg_sub (pv 0) pe_int set_list))
      (pss_one (ps_ret (pe_op op_modN (pe_callTy call_intI (by rfl) T.int (by decide +kernel) (pa_cons (pv 5) pa_nil)) (pv 1)))))) pss_nil)
      (pss_cons (ps_set (i := 6) sc_law_draw.nd rfl (Or.inl rfl) (pe_op op_mod (pe_callTy call_intI (by rfl) T.int (by decide +kernel) (pa_cons (pe_op op_pow (pe_op op_add (pe_op op_add (pe_op op_mod (pe_callTy call_intI (by rfl) T.int (by decide +kernel) (pa_cons (pv 4) pa_nil)) pe_int) (pe_op op_mul pe_int (pv 3))) pe_int) pe_int) pa_nil)) pe_int))
      (pss_cons (ps_set (i := 6) sc_law_draw.nd rfl (Or.inl rfl) (pe_op op_mod (pe_callTy call_intI (by rfl) T.int (by decide +kernel) (pa_cons (pe_op op_pow (pe_op op_add (pe_op op_add (pe_op op_mul (pv 6) (pe_op op_add (pe_op op_mul pe_int (pv 3)) pe_int)) (pe_op op_mul (pe_op op_mul pe_int (pv 3)) (pv 3))) pe_int) pe_int) pa_nil)) pe_int))
      (pss_one (ps_ret (pe_op op_modN (pe_callTy call_intI (by rfl) T.int (by decide +kernel) (pa_cons (pe_op op_fdiv (pv 6) pe_int) pa_nil)) (pv 1)))))))))))), ?_⟩
    dsimp only [cxOf]
    walk_at "hgo"
    refine ite2 (fun c1 => ?_) (fun c1 => ?_)
    · walk_at "hgo"
      refine k _ _ (fm _).1 (fm _).2 ⟨c, ns, z, _, upd_same, look_past ncq hc, z0, by omega, fdiv_in m1 l0, len⟩ (but_upd hq)
    · walk_at "hx"
      walk_at "hline"
      walk_at "hline"
      walk_at "hline"
      refine g_cut (fun σ' H' => ∃ cell, σ' = [some (.ref q), some (.int m), none, some (.int z), some (.int cell), none, none] ∧ H' q = some (.lst [.ref c, .int (z + 1), .int left]) ∧ H' c = some (.lst (ns.map V.int)) ∧ But q H H') ?_ ?_
      · rintro σ' H2 ⟨cell, rfl, hq2, hc2, bt⟩
        clear hq hc
        refine g_cut (fun σ' H' => σ' = [some (.ref q), some (.int m), none, some (.int z), some (.int cell), none, none] ∧ H' = H2) ?_ ?_
        · rintro σ' H' ⟨rfl, rfl⟩
          walk_at "hm"
          refine k _ _ (fm _).1 (fm _).2 ⟨c, ns, z + 1, left, hq2, hc2, by omega, by omega, l0, len⟩ bt
        · intro R hR
          walk_at "hx"
          refine ite2 (fun c2 => ?_) (fun c2 => ?_)
          · walk_at "hx"
            refine ite2 (fun c3 => ?_) (fun c3 => ?_)
            · walk_at "hgo"
              have big := of_decide_eq_true c3
              refine k _ _ (fm _).1 (fm _).2 ⟨c, ns, z + 1, _, upd_same, look_past ncq hc2, by omega, by omega, fdiv_in m1 ?_, len⟩ (bt.upd hq2)
              have p18 : (10 : Int) ^ Int.toNat 18 = 1000000000000000000 := by decide
              split <;> omega
            · walk_at "hx"
              exact hR _ _ ⟨rfl, rfl⟩
          · walk_at "hx"
            exact hR _ _ ⟨rfl, rfl⟩
      · intro R hR
        walk_at "hx"
        intro p hp
        have hq1 := look_past (o := .lst []) (ne_of_none (look_same rfl rfl) hp) (show upd H q (.lst ([V.ref c, V.int z, V.int left].set (Int.toNat 1) (V.int (z + 1)))) q = some (.lst [V.ref c, V.int (z + 1), V.int left]) from upd_same)
        have hc0 : upd H q (.lst ([V.ref c, V.int z, V.int left].set (Int.toNat 1) (V.int (z + 1)))) c = some (.lst (ns.map V.int)) := look_past ncq hc
        have hc1 := look_past (o := .lst []) (ne_of_none hc0 hp) hc0
        have bt : But q H (upd (upd H q (.lst ([V.ref c, V.int z, V.int left].set (Int.toNat 1) (V.int (z + 1))))) p (.lst [])) := (but_upd (x' := V.int (z + 1)) (y' := V.int left) hq).new hp
        refine g_neD (.lst (SqL.of hc1) (dp_ints ns)) (.lst (SqL.of upd_same) .nil) (shapedInts ns) (by decide +kernel) ?_
        rw [eqvInts0]
        generalize upd (upd H q (.lst ([V.ref c, V.int z, V.int left].set (Int.toNat 1) (V.int (z + 1))))) p (.lst []) = H2 at hq1 hc1 bt ⊢
        walk_at "hx"
        by_cases hn : ns = []
        · refine g_false (by simp [hn]) ?_
          walk_at "hx"
          exact hR _ _ ⟨_, rfl, hq1, hc1, bt⟩
        · refine g_true (by simp [hn]) ?_
          obtain ⟨v, hv⟩ := at_fmod hn z
          have hl : 0 < ns.length := List.length_pos_iff.mpr hn
          walk_at "hx"
          refine g_I (by show _ ≠ (0 : Int); rw [List.length_map]; omega) ?_
          refine g_ixL (SqL.of hc1) hv ?_
          walk_at "hx"
          exact hR _ _ ⟨v, rfl, hq1, hc1, bt⟩
end

theorem Pen.at {H : Hp} {q : Addr} {b : Nat} (p : Pen H q b) : ∃ xs, H q = some (.lst xs) := by
  obtain ⟨c, ns, z, left, h, _⟩ := p
  exact ⟨_, h⟩
theorem Pen.ne {H : Hp} {q p : Addr} {b : Nat} (h : Pen H q b) (hp : H p = none) : p ≠ q := by
  obtain ⟨xs, e⟩ := h.at
  exact (ne_of_none e hp).symm
theorem Pen.same {H H' : Hp} {q : Addr} {b : Nat} (h : Pen H q b) (s : Same H H') : Pen H' q b := by
  obtain ⟨c, ns, z, left, h1, h2, r⟩ := h
  exact ⟨c, ns, z, left, s _ _ h1, s _ _ h2, r⟩
theorem Pen.new {H : Hp} {q p : Addr} {b : Nat} {o : HO} (h : Pen H q b) (hp : H p = none) : Pen (upd H p o) q b := h.same fun x u e => by
  rw [upd_ne (ne_of_none e hp)]
  exact e
theorem Pen.more {H : Hp} {q : Addr} {b b' : Nat} (h : Pen H q b) (l : b ≤ b') : Pen H q b' := by
  obtain ⟨c, ns, z, left, h1, h2, z0, zb, r⟩ := h
  exact ⟨c, ns, z, left, h1, h2, z0, by omega, r⟩
/-- the pen at q and what was known of H -/
structure Led (q : Addr) (b : Nat) (H H' : Hp) : Prop where
  pen : Pen H' q b
  but : But q H H'
theorem Led.new {q p : Addr} {b : Nat} {H H' : Hp} {o : HO} (l : Led q b H H') (hp : H' p = none) : Led q b H (upd H' p o) := ⟨l.pen.new hp, l.but.new hp⟩
theorem Led.draw {q : Addr} {b : Nat} {H H1 H2 : Hp} (l : Led q b H H1) (p : Pen H2 q (b + 1)) (t : But q H1 H2) : Led q (b + 1) H H2 := ⟨p, l.but.trans t⟩
/-- what was new ahead of draws may be changed behind them -/
theorem Led.keep {q p : Addr} {b b3 : Nat} {H H3 H5 : Hp} {o : HO} (l : Led q b H H5) (P3 : Pen H3 q b3) (hp : H3 p = none) (t3 : But q H H3) (t5 : But q H3 H5) : Led q b H (upd H5 p o) := by
  have n := P3.ne hp
  have hH := t3.free n hp
  obtain ⟨c, ns, z, left, h1, h2, _⟩ := P3
  have npc : c ≠ p := ne_of_none h2 hp
  obtain ⟨x', y', h5⟩ := t5.cl c _ _ h1
  obtain ⟨⟨c', ns', z', left', g1, g2, r⟩, bt⟩ := l
  rw [h5] at g1
  cases g1
  refine ⟨⟨c, ns', z', left', ?_, ?_, r⟩, ?_, ?_⟩
  · rw [upd_ne n.symm]
    exact h5
  · rw [upd_ne npc]
    exact g2
  · intro a u na e
    rw [upd_ne (ne_of_none e hH)]
    exact bt.st a u na e
  · intro d x y e
    rw [upd_ne n.symm]
    exact bt.cl d x y e
theorem cut_ints (ns : List Int) (lo hi : Option Int) : ∃ ms : List Int, cutV (ns.map V.int) lo hi = ms.map V.int ∧ ms.length ≤ ns.length := by
  unfold cutV
  refine ⟨(ns.drop (HT.sIx (ns.map V.int).length 0 lo)).take (HT.sIx (ns.map V.int).length (ns.map V.int).length hi - HT.sIx (ns.map V.int).length 0 lo), ?_, ?_⟩
  · rw [List.map_take, List.map_drop]
  · rw [List.length_take, List.length_drop]
    omega
structure TxtP (mg : Str → Option Value) : Prop where
  list : mg "list" = none
  len : mg "len" = none
  range : mg "range" = none
structure Has (K : PySem.W.Frag) (mg : Str → Option Value) (fD : Addr) (fdD : FuncData) : Prop where
  g_law_draw : mg "_law_draw" = some (.ref fD)
def spPen (K : PySem.W.Frag) : Sp := fun vs H Q _ => ∃ (a : Addr) (ns : List Int), vs = [.ref a] ∧ SqL K H a (ns.map V.int) ∧ ns.length ≤ 63 ∧ ∀ (q : Addr) (H' : Hp), H q = none → Pen H' q 0 → Same H H' → Q (.ref q) H'
def spPick : Sp := fun vs H Q _ => ∃ (q l : Addr) (b : Nat) (xs : List V), vs = [.ref q, .ref l] ∧ Pen H q b ∧ b ≤ 100000 ∧ l ≠ q ∧ H l = some (.lst xs) ∧ xs ≠ [] ∧ xs.length ≤ 1000 ∧ ∀ (v : V) (H' : Hp), v ∈ xs → Pen H' q (b + 1) → But q H H' → Q v H'
def spGreat : Sp := fun vs H Q _ => ∃ (q : Addr) (m : Int) (b : Nat), vs = [.ref q, .int m] ∧ Pen H q b ∧ b ≤ 90000 ∧ 1 ≤ m ∧ m ≤ 100 ∧ ∀ (g : Int) (H' : Hp), 0 ≤ g → g.natAbs ≤ 10 ^ (m.toNat - 1) → Pen H' q (b + 2) → But q H H' → Q (.int g) H'
theorem pick_at {xs : List V} {d : Int} (h0 : 0 ≤ d) (h1 : d < (xs.length : Int)) : ∃ v, v ∈ xs ∧ atI xs d = some v := by
  obtain ⟨j, rfl⟩ : ∃ j : Nat, d = (j : Int) := ⟨d.toNat, by omega⟩
  have hj : j < xs.length := by omega
  exact ⟨xs[j], List.getElem_mem hj, atI_nat (List.getElem?_eq_getElem hj)⟩
section
variable {P : Program} {w : World} {K : PySem.W.Frag} {mg : Str → Option Value} {base : Heap}
theorem ok_law_pen {f : Addr} {fd : FuncData} (F : Fun K "_law_pen" "_law_pen" s_law_pen f fd) (T : TxtP mg) : FnOk P w K mg base CX0 1 f fd ["_law_script"] (spPen K) := by
  refine F.ok sc_law_pen (fun vs H Q E h => ?_) (fun cdv A outer s H vs Q E hr h => ?_)
  · obtain ⟨a, ns, rfl, _⟩ := h
    rfl
  · obtain ⟨a, ns, rfl, hS, len, k⟩ := h
    refine ⟨_, (pss_one (ps_ret (pe_lst (pa_cons (pe_callTy call_listL (by rfl) T.list (by decide +kernel) (pa_cons (pe_slice sl_list (pv 0) po_none (po_some pe_int)) pa_nil)) (pa_cons pe_int (pa_cons pe_int pa_nil)))))), ?_⟩
    try dsimp only [cxOf]
    walk_at "hgo"
    refine g_slL hS ?_
    intro p hp
    walk_at "hgo"
    refine g_listL (SqL.of upd_same) ?_
    intro c hc
    walk_at "hgo"
    intro q hq
    obtain ⟨ms, e, l⟩ := cut_ints ns none (some 63)
    have npc : p ≠ c := (gone_past hc).1.symm
    have hq1 := gone_past hq
    have hq2 := gone_past hq1.2
    walk_at "hgo"
    refine k q _ hq2.2 ⟨c, ms, 0, 0, upd_same, ?_, by omega, by omega, by omega, by omega⟩ ?_
    · rw [upd_ne hq1.1.symm, upd_same, e]
    · intro b o eb
      rw [upd_ne (ne_of_none eb hq2.2), upd_ne (ne_of_none eb (gone_past hc).2), upd_ne (ne_of_none eb hp)]
      exact eb
variable {f_law_draw : Addr} {fd_law_draw : FuncData}
theorem ok_law_pick {f : Addr} {fd : FuncData} (F : Fun K "_law_pick" "_law_pick" s_law_pick f fd) (TD : TxtD mg) (T : TxtP mg)
    (F_law_draw : Fun K "_law_draw" "_law_draw" s_law_draw f_law_draw fd_law_draw) (b_law_draw : Binds K fd_law_draw ["_law_pen_here", "_law_many"] []) (g_law_draw : mg "_law_draw" = some (.ref f_law_draw)) :
    FnOk P w K mg base CX0 2 f fd ["_law_pen_here", "_law_some"] spPick := by
  have G_law_draw : FnOk P w K mg base CX0 1 f_law_draw fd_law_draw ["_law_pen_here", "_law_many"] spDraw := ok_law_draw F_law_draw TD
  refine F.ok sc_law_pick (fun vs H Q E h => ?_) (fun cdv A outer s H vs Q E hr h => ?_)
  · obtain ⟨q, l, b, xs, rfl, _⟩ := h
    rfl
  · obtain ⟨q, l, b, xs, rfl, hP, hb, nlq, hl, ne, len, k⟩ := h
    refine ⟨_, (pss_one (ps_ret (pe_ix ix_list (pv 1) (pe_call G_law_draw (hr.mono (by decide)) (by rfl) g_law_draw F_law_draw.kp b_law_draw .nil pass0 (pa_cons (pv 0) (pa_cons (pe_callB call_lenL (by rfl) T.len (by decide +kernel) (pa_cons (pv 1) pa_nil)) pa_nil))) (fun _ _ => rfl)))), ?_⟩
    try dsimp only [cxOf]
    walk_at "hgo"
    have hn : 0 < xs.length := List.length_pos_iff.mpr ne
    refine ⟨q, (xs.length : Int), b, rfl, hP, hb, by omega, by omega, ?_⟩
    intro d H1 d0 d1 P1 t1
    walk_at "hgo"
    obtain ⟨v, hv, ha⟩ := pick_at d0 d1
    refine g_ixL (SqL.of (t1.st l _ nlq hl)) ha ?_
    walk_at "hgo"
    exact k v H1 hv P1 t1
end

/-- a value of the law: its kind, by name -/
inductive Kd (K : PySem.W.Frag) (H : Hp) : V → String → Prop
  | non : Kd K H .non "NoneType"
  | bl (b : Bool) : Kd K H (.bl b) "bool"
  | int (i : Int) : Kd K H (.int i) "int"
  | str (s : Str) : s.length ≤ 100000 → Kd K H (.str s) "str"
  | lst {a : Addr} {xs : List V} : H a = some (.lst xs) → Kd K H (.ref a) "list"
  | tup {a : Addr} {xs : List V} : H a = some (.tup xs) → Kd K H (.ref a) "tuple"
  | dK {a : Addr} {kvs : List (Key × V)} : H a = some (.dK kvs) → Kd K H (.ref a) "dict"
theorem Kd.ty {K : PySem.W.Frag} {H : Hp} {v : V} {n : String} (h : Kd K H v n) : TyX K H v (.type n) := by
  cases h with
  | non => exact .base .non
  | bl b => exact .base (.bl b)
  | int i => exact .base (.int i)
  | str s _ => exact .base (.str s)
  | lst e => exact .base (.lst e)
  | tup e => exact .base (.tup e)
  | dK e => exact .base (.dK e)
def isS : V → Bool
  | .str _ => true
  | _ => false
def isI : V → Bool
  | .int _ => true
  | _ => false
def isB : V → Bool
  | .bl _ => true
  | _ => false
theorem Kd.isStr {K : PySem.W.Frag} {H : Hp} {v : V} {n : String} (h : Kd K H v n) : kitB n "str" = some (isS v) := by
  cases h <;> first | (show _ = some true; decide +kernel) | (show _ = some false; decide +kernel)
theorem Kd.isInt {K : PySem.W.Frag} {H : Hp} {v : V} {n : String} (h : Kd K H v n) : kitB n "int" = some (isI v || isB v) := by
  cases h <;> first | (show _ = some true; decide +kernel) | (show _ = some false; decide +kernel)
theorem Kd.isBool {K : PySem.W.Frag} {H : Hp} {v : V} {n : String} (h : Kd K H v n) : kitB n "bool" = some (isB v) := by
  cases h <;> first | (show _ = some true; decide +kernel) | (show _ = some false; decide +kernel)
def letters : Str := Str.ofString "abcdefghijklmnopqrstuvwxyz"
def okS (s : Str) : Bool := decide (0 < s.length) && decide (s.length < 9) && !decide (s = Str.ofString "self") && s.cps.toList.all fun c => decide (c ∈ letters.cps.toList)
def okV : V → Bool
  | .str s => okS s
  | _ => false
theorem letters_is : letters.cps.toList = List.range' 97 26 := by decide +kernel
theorem mem_letters (c : Nat) : c ∈ letters.cps.toList ↔ 97 ≤ c ∧ c < 123 := by
  rw [letters_is, List.mem_range'_1]
theorem tabs : ∀ c : _root_.Fin 128, (Unicode.isAlpha c.val && !(Unicode.isUpper c.val || Unicode.isTitle c.val)) = decide (97 ≤ c.val ∧ c.val < 123) ∧ (decide (97 ≤ c.val ∧ c.val < 123) = true → Unicode.isLower c.val = true) := by decide +kernel
theorem tab {c : Nat} (h : c < 128) : (Unicode.isAlpha c = true ∧ Unicode.isUpper c = false ∧ Unicode.isTitle c = false) ↔ (97 ≤ c ∧ c < 123) := by
  have t := (tabs ⟨c, h⟩).1
  simp only at t
  constructor
  · rintro ⟨a, b, d⟩
    rw [a, b, d] at t
    exact of_decide_eq_true t.symm
  · intro q
    rw [decide_eq_true q] at t
    simp only [Bool.and_eq_true, Bool.not_eq_true', Bool.or_eq_false_iff] at t
    exact ⟨t.1, t.2.1, t.2.2⟩
theorem tabL {c : Nat} (h : 97 ≤ c ∧ c < 123) : Unicode.isLower c = true := (tabs ⟨c, by omega⟩).2 (decide_eq_true h)
theorem name_is (s : Str) : (Txt.isascii s && (Txt.isalpha s && Txt.islower s)) = (decide (0 < s.length) && s.cps.toList.all fun c => decide (c ∈ letters.cps.toList)) := by
  have e0 : ∀ p : Nat → Bool, s.cps.all p = s.cps.toList.all p := fun p => by rw [Array.all_toList]
  have e1 : ∀ p : Nat → Bool, s.cps.any p = s.cps.toList.any p := fun p => by rw [Array.any_toList]
  unfold Txt.isascii Txt.isalpha Txt.islower
  rw [e0, e0, e1, e1]
  have hl : s.length = s.cps.toList.length := by
    show s.cps.size = _
    rw [Array.length_toList]
  rw [hl]
  generalize s.cps.toList = l
  rw [Bool.eq_iff_iff]
  simp only [Bool.and_eq_true, List.all_eq_true, decide_eq_true_eq, List.any_eq_true, Bool.not_eq_true', List.any_eq_false, Bool.or_eq_true, not_or, mem_letters, gt_iff_lt]
  constructor
  · rintro ⟨a, ⟨n, al⟩, lo, up⟩
    refine ⟨n, fun c hc => ?_⟩
    have u := up c hc
    exact (tab (a c hc)).mp ⟨al c hc, by simpa using u.1, by simpa using u.2⟩
  · rintro ⟨n, al⟩
    refine ⟨fun c hc => by have := al c hc; omega, ⟨n, fun c hc => ?_⟩, ?_, fun c hc => ?_⟩
    · have := al c hc
      exact ((tab (c := c) (by omega)).mpr this).1
    · cases l with
      | nil => simp at n
      | cons c r => exact ⟨c, List.mem_cons_self, tabL (al c List.mem_cons_self)⟩
    · have := al c hc
      have q := (tab (c := c) (by omega)).mpr this
      exact ⟨by simp [q.2.1], by simp [q.2.2]⟩
structure TxtN (mg : Str → Option Value) : Prop where
  int : mg "int" = none
  bool : mg "bool" = none
  str : mg "str" = none
  len : mg "len" = none
  isinstance : mg "isinstance" = none
/-- a def that tells something of a value -/
def spIs (K : PySem.W.Frag) (f : V → Bool) : Sp := fun vs H Q _ => ∃ (v : V) (n : String), vs = [v] ∧ Kd K H v n ∧ ∀ H', Same H H' → Q (.bl (f v)) H'
def wholeV (v : V) : Bool := (isI v || isB v) && !isB v
section
variable {P : Program} {w : World} {K : PySem.W.Frag} {mg : Str → Option Value} {base : Heap}
theorem ok_is_integer {f : Addr} {fd : FuncData} (F : Fun K "is_integer" "is_integer" s_is_integer f fd) (T : TxtN mg) : FnOk P w K mg base CX0 1 f fd ["value"] (spIs K wholeV) := by
  refine F.ok sc_is_integer (fun vs H Q E h => ?_) (fun cdv A outer s H vs Q E hr h => ?_)
  · obtain ⟨v, n, rfl, _⟩ := h
    rfl
  · obtain ⟨v, n, rfl, hk, k⟩ := h
    refine ⟨_, (pss_one (ps_ret (pe_and (pe_callB call_isi (by rfl) T.isinstance (by decide +kernel) (pa_cons (pv 0) (pa_cons (pe_bltn (v := .ty "int") (u := .type "int") (by rfl) T.int (by decide +kernel) rfl) pa_nil))) (pe_one (pe_not (pe_callB call_isi (by rfl) T.isinstance (by decide +kernel) (pa_cons (pv 0) (pa_cons (pe_bltn (v := .ty "bool") (u := .type "bool") (by rfl) T.bool (by decide +kernel) rfl) pa_nil)))))))), ?_⟩
    dsimp only [cxOf]
    walk_at "hgo"
    refine g_isi hk.ty hk.isInt ?_
    walk_at "hgo"
    unfold wholeV at k
    cases e : (isI v || isB v) with
    | false =>
      rw [e] at k
      refine iteF ?_
      exact k H (Same.refl H)
    | true =>
      rw [e] at k
      refine iteT ?_
      walk_at "hgo"
      refine g_isi hk.ty hk.isBool ?_
      walk_at "hgo"
      exact k H (Same.refl H)
theorem ok_is_name {f : Addr} {fd : FuncData} (F : Fun K "is_name" "is_name" s_is_name f fd) (T : TxtN mg) : FnOk P w K mg base CX0 1 f fd ["value"] (spIs K okV) := by
  refine F.ok sc_is_name (fun vs H Q E h => ?_) (fun cdv A outer s H vs Q E hr h => ?_)
  · obtain ⟨v, n, rfl, _⟩ := h
    rfl
  · obtain ⟨v, n, rfl, hk, k⟩ := h
    refine ⟨_, (pss_cons (ps_if (PW.pt (pw_or (pt_not (pt_val (pe_callB call_isi (by rfl) T.isinstance (by decide +kernel) (pa_cons (pv 0) (pa_cons (pe_bltn (v := .ty "str") (u := .type "str") (by rfl) T.str (by decide +kernel) rfl) pa_nil))))) (pw_or1 (pt_cmpR op_gt (pe_callB call_lenS (by rfl) T.len (by decide +kernel) (pa_cons (pv 0) pa_nil)) pe_int (nomark _))))) (pss_one (ps_ret pe_bl)) pss_nil)
      (pss_one (ps_ret (pe_and (pe_bm0 PySem.F.plainAttrs_str PySem.F.slot_str_isascii PySem.F.type_str_isascii mt_isasciiB (pv 0)) (pe_and (pe_bm0 PySem.F.plainAttrs_str PySem.F.slot_str_isalpha PySem.F.type_str_isalpha mt_isalphaB (pv 0)) (pe_and (pe_bm0 PySem.F.plainAttrs_str PySem.F.slot_str_islower PySem.F.type_str_islower mt_islowerB (pv 0)) (pe_one (pe_cmpR op_ne (pv 0) pe_str (nomark _))))))))), ?_⟩
    dsimp only [cxOf]
    walk_at "hgo"
    refine g_isi hk.ty hk.isStr ?_
    walk_at "hgo"
    cases hk with
    | str s hs =>
      refine g_false rfl ?_
      walk_at "hgo"
      refine g_lenS (small_of (by omega)) ?_
      walk_at "hgo"
      refine ite2 (fun c1 => ?_) (fun c1 => ?_)
      · walk_at "hgo"
        have e : okV (.str s) = false := by
          have z : ¬ s.length < 9 := by
            have := of_decide_eq_true c1
            omega
          show okS s = false
          unfold okS
          rw [decide_eq_false z]
          simp
        rw [e] at k
        exact k H (Same.refl H)
      · walk_at "hgo"
        have z : s.length < 9 := by
          have := of_decide_eq_false (Bool.eq_false_iff.mpr c1)
          omega
        have e : okV (.str s) = (Txt.isascii s && (Txt.isalpha s && (Txt.islower s && !decide (V.str s = V.str (Str.ofString "self"))))) := by
          have n := name_is s
          have q : decide (V.str s = V.str (Str.ofString "self")) = decide (s = Str.ofString "self") := by
            by_cases w : s = Str.ofString "self"
            · rw [decide_eq_true w, decide_eq_true (congrArg V.str w)]
            · rw [decide_eq_false w, decide_eq_false (fun y => w (V.str.inj y))]
          rw [q]
          have r : (Txt.isascii s && (Txt.isalpha s && (Txt.islower s && !decide (s = Str.ofString "self")))) = ((Txt.isascii s && (Txt.isalpha s && Txt.islower s)) && !decide (s = Str.ofString "self")) := by
            cases Txt.isascii s <;> cases Txt.isalpha s <;> cases Txt.islower s <;> simp
          rw [r, n]
          show okS s = _
          unfold okS
          rw [decide_eq_true z]
          cases decide (0 < s.length) <;> cases decide (s = Str.ofString "self") <;> simp
        rw [e] at k
        cases e1 : Txt.isascii s with
        | false =>
          rw [e1] at k
          exact iteF (k H (Same.refl H))
        | true =>
          rw [e1] at k
          refine iteT ?_
          walk_at "hgo"
          cases e2 : Txt.isalpha s with
          | false =>
            rw [e2] at k
            exact iteF (k H (Same.refl H))
          | true =>
            rw [e2] at k
            refine iteT ?_
            walk_at "hgo"
            cases e3 : Txt.islower s with
            | false =>
              rw [e3] at k
              exact iteF (k H (Same.refl H))
            | true =>
              rw [e3] at k
              refine iteT ?_
              walk_at "hgo"
              exact k H (Same.refl H)
    | _ =>
      refine g_true rfl ?_
      walk_at "hgo"
      exact k H (Same.refl H)
end

theorem g_lockE {t : TE} {σ : L2.St} {H : Hp} {Q : VK} (d : Addr) (u : HO) (h : H d = some u) (mu : Mut (some u)) (q : ∀ od, t σ (upd H d (.frz od u)) fun v H' => H' d = some (.frz od u) ∧ Q v (upd H' d u)) : tLockE t σ H Q := ⟨d, u, h, mu, q⟩
theorem g_keys {td : TE} {σ : L2.St} {H : Hp} {R : It → Hp → Prop} (h : td σ H fun x H1 => ∃ d o kvs, x = .ref d ∧ H1 d = some (.frz o (.dK kvs)) ∧ R (Itk d o kvs) H1) (tm : ∀ {Q Q' : VK}, (∀ v H', Q v H' → Q' v H') → td σ H Q → td σ H Q') : iKeys td σ H R :=
  tm (fun x H1 z => by
    obtain ⟨d, o, kvs, e, h1, r⟩ := z
    exact ⟨d, o, e, .inl ⟨kvs, h1, r⟩⟩) h
theorem g_keysV {i : Nat} {σ : L2.St} {H : Hp} {R : It → Hp → Prop} {d : Addr} {o : Obj} {kvs : List (Key × V)} (e : σ[i]? = some (some (.ref d))) (h : H d = some (.frz o (.dK kvs))) (r : R (Itk d o kvs) H) : iKeys (tVar i) σ H R :=
  ⟨.ref d, e, d, o, rfl, .inl ⟨kvs, h, r⟩⟩
theorem g_dget {td ty : TE} {σ : L2.St} {H : Hp} {Q : VK} (h : td σ H fun x H1 => ty σ H1 fun y H2 => ∃ a v, x = .ref a ∧ DGet H2 a y (some v) ∧ Q v H2) : tDGet td ty σ H Q := h
theorem g_dget2 {td ty tx : TE} {σ : L2.St} {H : Hp} {Q : VK} (h : td σ H fun x H1 => ∃ a, x = .ref a ∧ IsD H1 a ∧ ty σ H1 fun y H2 => tx σ H2 fun z H3 => ∃ o, DGet H3 a y o ∧ Q (o.getD z) H3) : tDGet2 td ty tx σ H Q := h
theorem g_din {ty td : TE} {σ : L2.St} {H : Hp} {Q : VK} (h : ty σ H fun y H1 => td σ H1 fun x H2 => ∃ a o, x = .ref a ∧ DGet H2 a y o ∧ Q (.bl o.isSome) H2) : tDIn ty td σ H Q := h
theorem g_dput {td ty tv : TE} {D : Ends} {σ : L2.St} {H : Hp} (h : tv σ H fun v H1 => td σ H1 fun x H2 => ty σ H2 fun y H3 => ∃ a H4, x = .ref a ∧ DPut H3 a y v H4 ∧ D.nx σ H4) : sDPut td ty tv D σ H := h
theorem rd_get {H : Hp} {d : Addr} {l : IL} (h : Rd H d (.dK (DI l))) {k : Str} : DGet H d (.str k) ((l.lookup k).map V.int) := .inl ⟨DI l, Sum.inr k, h, rfl, (DI_val l k).symm⟩
theorem rd_at {H : Hp} {d : Addr} {l : IL} (h : Rd H d (.dK (DI l))) {k : Str} (m : k ∈ ks l) : DGet H d (.str k) (some (.int (vl l k))) := by
  have z := rd_get (k := k) h
  rw [look_some m] at z
  exact z
theorem get0 (l : IL) (k : Str) : ((l.lookup k).map V.int).getD (.int 0) = .int (vl l k) := by
  unfold vl
  cases l.lookup k <;> rfl
theorem di_at {l : IL} {i : Nat} {k : Key} {v : V} (h : (DI l)[i]? = some (k, v)) : ∃ x j, l[i]? = some (x, j) ∧ k = Sum.inr x ∧ v = V.int j ∧ x ∈ ks l := by
  unfold DI at h
  rw [List.getElem?_map] at h
  cases e : l[i]? with
  | none => rw [e] at h; cases h
  | some p =>
    rw [e] at h
    cases h
    exact ⟨p.1, p.2, rfl, rfl, rfl, List.mem_map_of_mem (List.mem_of_getElem? e)⟩
/-- all but what stands at d -/
def Oth (d : Addr) (H H' : Hp) : Prop := ∀ a o, a ≠ d → H a = some o → H' a = some o
theorem Oth.same {d : Addr} {H H1 H2 : Hp} (a : Oth d H H1) (s : Same H1 H2) : Oth d H H2 := fun x o n h => s x o (a x o n h)
theorem oth_upd {d : Addr} {H : Hp} {u : HO} : Oth d H (upd H d u) := fun a o n h => by rw [upd_ne n]; exact h
theorem Oth.at {d : Addr} {H H' : Hp} {u : HO} (a : Oth d H H') (n : H d = none) : Same H H' := fun x o h => a x o (fun e => by rw [e, n] at h; cases h) h
theorem Oth.back {d : Addr} {H H' : Hp} {u : HO} (a : Oth d H H') (h : H d = some u) : Same H (upd H' d u) := fun x o e => by
  by_cases z : x = d
  · rw [z, upd_same]
    rw [z, h] at e
    exact e
  · rw [upd_ne z]
    exact a x o z e
theorem Oth.put {d p : Addr} {H H' : Hp} {u : HO} (a : Oth d H H') (n : H p = none) : Oth d H (upd H' p u) := fun x o z e => by
  rw [upd_ne (fun w => by rw [w, n] at e; cases e)]
  exact a x o z e
theorem okS_len {s : Str} (h : okS s = true) : s.length < 9 := by
  unfold okS at h
  simp only [Bool.and_eq_true, decide_eq_true_eq] at h
  exact h.1.1.2
theorem okS_strOk {s : Str} (h : okS s = true) : PyData.strOk s = true := by
  unfold okS at h
  simp only [Bool.and_eq_true, List.all_eq_true, decide_eq_true_eq] at h
  unfold PyData.strOk
  rw [← Array.all_toList, List.all_eq_true]
  intro c hc
  have := (mem_letters c).mp (h.2 c hc)
  exact decide_eq_true (by omega)
theorem kd_name {K : PySem.W.Frag} {H : Hp} {s : Str} (h : okS s = true) : Kd K H (.str s) "str" := .str s (by have := okS_len h; omega)
def okL (l : IL) : Prop := ∀ k ∈ ks l, okS k = true
structure TxtV (mg : Str → Option Value) : Prop where
  int : mg "int" = none
  bool : mg "bool" = none
  str : mg "str" = none
  len : mg "len" = none
  isinstance : mg "isinstance" = none
  dict : mg "dict" = none
  all : mg "all" = none
  sum : mg "sum" = none
  sorted : mg "sorted" = none
  set : mg "set" = none
  list : mg "list" = none
  tuple : mg "tuple" = none
  range : mg "range" = none
  abs : mg "abs" = none
  repr : mg "repr" = none
theorem TxtV.n {mg : Str → Option Value} (T : TxtV mg) : TxtN mg := ⟨T.int, T.bool, T.str, T.len, T.isinstance⟩
theorem all_true (n : Nat) : (List.replicate n true).all id = true := by
  induction n with
  | zero => rfl
  | succ n ih => rw [List.replicate_succ, List.all_cons, ih]; rfl
def spGives : Sp := fun vs H Q _ => ∃ d l, vs = [.ref d] ∧ H d = some (.dK (DI l)) ∧ okL l ∧ l.length ≤ 100 ∧ ∀ H', Same H H' → Q (.bl true) H'
section
variable {P : Program} {w : World} {K : PySem.W.Frag} {mg : Str → Option Value} {base : Heap}
variable {f_is_name f_is_integer : Addr} {fd_is_name fd_is_integer : FuncData}
theorem ok_gives_integers {f : Addr} {fd : FuncData} (F : Fun K "gives_integers" "gives_integers" s_gives_integers f fd) (T : TxtV mg)
    (F_is_name : Fun K "is_name" "is_name" s_is_name f_is_name fd_is_name) (b_is_name : Binds K fd_is_name ["value"] []) (g_is_name : mg "is_name" = some (.ref f_is_name))
    (F_is_integer : Fun K "is_integer" "is_integer" s_is_integer f_is_integer fd_is_integer) (b_is_integer : Binds K fd_is_integer ["value"] []) (g_is_integer : mg "is_integer" = some (.ref f_is_integer)) :
    FnOk P w K mg base CX0 2 f fd ["value"] spGives := by
  have G_is_name : FnOk P w K mg base CX0 1 f_is_name fd_is_name ["value"] (spIs K okV) := ok_is_name F_is_name T.n
  have G_is_integer : FnOk P w K mg base CX0 1 f_is_integer fd_is_integer ["value"] (spIs K wholeV) := ok_is_integer F_is_integer T.n
  refine F.ok sc_gives_integers (fun vs H Q E h => ?_) (fun cdv A outer s H vs Q E hr h => ?_)
  · obtain ⟨d, l, rfl, _⟩ := h
    rfl
  · obtain ⟨d, l, rfl, hd, ok, few, k⟩ := h
    have hu := hu_of hr
    refine ⟨_, (pss_cons (ps_if (pt_not (pt_val (pe_callB call_isi (by rfl) T.isinstance (by decide +kernel) (pa_cons (pv 0) (pa_cons (pe_bltn (v := .ty "dict") (u := .type "dict") (by rfl) T.dict (by decide +kernel) rfl) pa_nil))))) (pss_one (ps_ret pe_bl)) pss_nil)
      (pss_one (ps_ret (pe_callB (cr_all rfl) (by rfl) T.all (by decide +kernel) (pa_cons (pe_lock (pe_lc (own := [("name", 1)]) (g := gName 1) rfl sc_gives_integers.nd (pi_keys (pv 0)) (blkOk_by (own := [("name", 1)]) (N := N_gives_integers) (sc := defScope s_gives_integers) (by decide +kernel)) (fun _ _ _ _ _ => pg_name (i := 1) sc_gives_integers.nd rfl (Or.inl rfl)) (fun _ _ _ _ _ => pts_nil) (fun _ _ _ _ _ => (pe_and (pe_call G_is_name (hr.mono (by decide)) (by rfl) g_is_name F_is_name.kp b_is_name .nil pass0 (pa_cons (pv 1) pa_nil)) (pe_one (pe_call G_is_integer (hr.mono (by decide)) (by rfl) g_is_integer F_is_integer.kp b_is_integer .nil pass0 (pa_cons (pe_dget hu (pv 0) (pv 1) (fun _ _ => rfl)) pa_nil))))))) pa_nil))))), ?_⟩
    try dsimp only [cxOf]
    walk_at "hgo"
    refine g_isi (Kd.dK hd).ty (b := true) (by decide +kernel) ?_
    walk_at "hgo"
    refine g_lockE d _ hd trivial fun od => ?_
    walk_at "hgo"
    refine g_keysV rfl upd_same fun D hD => ?_
    have ndD : D ≠ d := fun e => by rw [e, upd_same] at hD; cases hD
    rw [upd_ne ndD] at hD
    refine lc_it walk_keys (fun i H' => H' d = some (.frz od (.dK (DI l))) ∧ H' D = some (.lst ((List.replicate i true).map V.bl)) ∧ Oth d H H') ?_ (fun _ _ _ z => z.1) ?_ ?_
    · refine ⟨?_, upd_same, ?_⟩
      · rw [upd_ne ndD.symm]; exact upd_same
      · exact (oth_upd (H := H)).put hD
    · rintro i x H1 H2 hi ⟨p1, p2, p3⟩ ⟨rfl, ky, v, hkv, rfl⟩
      obtain ⟨x, j, hx, rfl, rfl, mx⟩ := di_at hkv
      have hkok := ok x mx
      walk_at "hgo"
      refine ⟨rfl, ?_⟩
      walk_at "hgo"
      refine ⟨.str x, "str", rfl, kd_name hkok, ?_⟩
      intro H3 s3
      refine ⟨true, by show V.bl (okS x) = V.bl true; rw [hkok], ?_⟩
      walk_at "hgo"
      refine g_dget ?_
      walk_at "hgo"
      have q1 := s3 _ _ p1
      refine ⟨d, _, rfl, rd_at (.inr ⟨od, q1⟩) mx, ?_⟩
      walk_at "hgo"
      refine ⟨.int _, "int", rfl, .int _, ?_⟩
      intro H4 s4
      have q2 := s4 _ _ (s3 _ _ p2)
      refine ⟨_, q2, ?_, ?_, upd_same.trans ?_, ?_⟩
      · rw [List.length_map, List.length_replicate]
        rw [DI_len] at hi
        exact Nat.lt_of_lt_of_le (show i < 1000 by omega) (by decide)
      · rw [upd_ne ndD.symm]
        exact s4 _ _ q1
      · rw [List.replicate_succ', List.map_append]; rfl
      · exact ((p3.same s3).same s4).put hD
    · rintro H1 ⟨p1, p2, p3⟩
      refine ⟨p1, ?_⟩
      have sm := p3.back hd
      have e : upd H1 d (.dK (DI l)) D = some (.lst ((List.replicate (DI l).length true).map V.bl)) := by rw [upd_ne ndD]; exact p2
      refine g_nil ?_
      refine ⟨D, _, rfl, SqL.of e, ?_⟩
      rw [all_true]
      exact k _ sm
end

def DCF (J : It) (g : TG) (tt : TT) (tk tv : TE) (vs : List Nat) (σ : L2.St) (H1 : Hp) (D : Addr) (Q : VK) : Prop := ∃ W : Nat → Nat → Hp → Prop, (∃ m, W 0 m (upd H1 D (.dK []))) ∧ ∀ i m H, W i m H →
  (J.stop i H ∧ Q (.ref D) H) ∨ (J.go i H ∧ ∃ Nx : Hp → Prop, (∀ H', Nx H' → ∃ m', m' < m ∧ W (i + 1) m' H') ∧ ∀ x H', J.yld i H x H' → g x (wipe σ vs) H' fun σ2 H2 => wipe σ2 vs = wipe σ vs ∧ tt σ2 H2 fun b H3 =>
    if b = true then tk σ2 H3 fun y H4 => tv σ2 H4 fun z H5 => ∃ kvs k, y = kV k ∧ H5 D = some (.dK kvs) ∧ kvs.length < sizeLine ∧ Nx (upd H5 D (.dK (putK kvs k z))) else Nx H3)
theorem g_dc {wi : TI} {g : TG} {tt : TT} {tk tv : TE} {vs : List Nat} {σ : L2.St} {H : Hp} {Q : VK} (h : wi σ H fun J H1 => ∀ D, H1 D = none → DCF J g tt tk tv vs σ H1 D Q) : tDc wi g tt tk tv vs σ H Q := h
theorem g_lockS {t : TS} {σ : L2.St} {H : Hp} {D : Ends} (d : Addr) (u : HO) (h : H d = some u) (mu : Mut (some u))
    (q : ∀ od, t ⟨fun σ' H' => H' d = some (.frz od u) ∧ D.nx σ' (upd H' d u), fun v H' => H' d = some (.frz od u) ∧ D.rt v (upd H' d u), fun σ' H' => H' d = some (.frz od u) ∧ D.bk σ' (upd H' d u), fun σ' H' => H' d = some (.frz od u) ∧ D.ct σ' (upd H' d u)⟩ σ (upd H d (.frz od u))) : tLock t D σ H := ⟨d, u, h, mu, q⟩
theorem putI_new {l : IL} {k : Str} {i : Int} (h : k ∉ ks l) : putI l k i = l ++ [(k, i)] := by unfold putI; rw [if_neg h]
theorem mk_snoc (ys : List Str) (y : Str) (f : Str → Int) : mk (ys ++ [y]) f = mk ys f ++ (if f y ≠ 0 then [(y, f y)] else []) := by
  unfold mk
  rw [List.filter_append, List.map_append]
  congr 1
  by_cases h : f y = 0
  · rw [if_neg (by simp [h]), List.filter_cons_of_neg (by simp [h])]; rfl
  · rw [if_pos h, List.filter_cons_of_pos (by simp [h])]; rfl
theorem mk_len (ys : List Str) (f : Str → Int) : (mk ys f).length ≤ ys.length := by
  unfold mk
  rw [List.length_map]
  exact List.length_filter_le _ _
theorem take_snoc {ys : List Str} {i : Nat} {y : Str} (h : ys[i]? = some y) : ys.take (i + 1) = ys.take i ++ [y] := by
  rw [List.take_add_one, h]; rfl
theorem not_taken {ys : List Str} {i : Nat} {y : Str} (n : ys.Nodup) (h : ys[i]? = some y) : y ∉ ys.take i := by
  intro m
  obtain ⟨j, hj, e⟩ := List.mem_take_iff_getElem.mp m
  obtain ⟨hi, e2⟩ := List.getElem?_eq_some_iff.mp h
  have hj' : j < i := by omega
  have := (List.getElem_inj n).mp (e.trans e2.symm)
  omega
theorem mk_put {ys : List Str} {i : Nat} {y : Str} {f : Str → Int} (n : ys.Nodup) (h : ys[i]? = some y) (hf : f y ≠ 0) : putI (mk (ys.take i) f) y (f y) = mk (ys.take (i + 1)) f := by
  have q : y ∉ ks (mk (ys.take i) f) := by
    rw [ks_mk, List.mem_filter]
    exact fun z => not_taken n h z.1
  rw [putI_new q, take_snoc h, mk_snoc, if_pos hf]
theorem mk_skip {ys : List Str} {i : Nat} {y : Str} {f : Str → Int} (h : ys[i]? = some y) (hf : f y = 0) : mk (ys.take (i + 1)) f = mk (ys.take i) f := by
  rw [take_snoc h, mk_snoc, if_neg (fun z => z hf), List.append_nil]
theorem str_at {ys : List Str} {i : Nat} {x : V} (h : (ys.map V.str)[i]? = some x) : ∃ y, ys[i]? = some y ∧ x = .str y := by
  rw [List.getElem?_map] at h
  cases e : ys[i]? with
  | none => rw [e] at h; cases h
  | some y => rw [e] at h; cases h; exact ⟨y, rfl, rfl⟩
/-- what a new canonical dict tells of l -/
structure Kept (l r : IL) : Prop where
  can : Can r
  vl : ∀ k, vl r k = vl l k
  sub : ∀ k ∈ ks r, k ∈ ks l
  len : r.length ≤ l.length
def spKept : Sp := fun vs H Q _ => ∃ d l, vs = [.ref d] ∧ H d = some (.dK (DI l)) ∧ (ks l).Nodup ∧ l.length < 64 ∧ ∀ p r H', H p = none → Same H H' → H' p = some (.dK (DI r)) → Kept l r → Q (.ref p) H'
section
variable {P : Program} {w : World} {K : PySem.W.Frag} {mg : Str → Option Value} {base : Heap}
theorem ok_kept_numbers {f : Addr} {fd : FuncData} (F : Fun K "kept_numbers" "kept_numbers" s_kept_numbers f fd) (T : TxtV mg) : FnOk P w K mg base CX0 1 f fd ["numbers"] spKept := by
  refine F.ok sc_kept_numbers (fun vs H Q E h => ?_) (fun cdv A outer s H vs Q E hr h => ?_)
  · obtain ⟨d, l, rfl, _⟩ := h
    rfl
  · obtain ⟨d, l, rfl, hd, nd, few, k⟩ := h
    have hu := hu_of hr
    refine ⟨_, (pss_one (ps_ret (pe_dc (own := [("name", 1)]) (g := gName 1) rfl sc_kept_numbers.nd (pi_list (pe_callB (call_sortedD rfl) (by rfl) T.sorted (by decide +kernel) (pa_cons (pv 0) pa_nil))) (blkOk_by (own := [("name", 1)]) (N := N_kept_numbers) (sc := defScope s_kept_numbers) (by decide +kernel)) (fun _ _ _ _ _ => pg_name (i := 1) sc_kept_numbers.nd rfl (Or.inl rfl)) (fun _ _ _ _ _ => (pts_one (pt_cmpR op_ne (pe_dget hu (pv 0) (pv 1) (fun _ _ => rfl)) pe_int (nomark _)))) (fun _ _ _ _ _ => (pv 1)) (fun _ _ _ _ _ => (pe_dget hu (pv 0) (pv 1) (fun _ _ => rfl)))))), ?_⟩
    try dsimp only [cxOf]
    walk_at "hgo"
    refine g_dc ?_
    walk_at "hgo"
    refine ⟨d, DI l, ks l, rfl, .inl hd, DI_keys l, by rw [ks_len]; exact few, ?_⟩
    intro ys p perm srt hp
    refine g_atL (SqL.of (upd_same (o := .lst (ys.map V.str)))) fun D hD => ?_
    have ndp : D ≠ p := fun e => by rw [e, upd_same] at hD; cases hD
    rw [upd_ne ndp] at hD
    have ny : ys.Nodup := perm.nodup_iff.mpr nd
    have ly : ys.length = l.length := by rw [perm.length_eq, ks_len]
    refine dc_it (walk_list (K := K) (xs := ys.map V.str)) (fun i H' => H' p = some (.lst (ys.map V.str)) ∧ H' D = some (.dK (DI (mk (ys.take i) (vl l)))) ∧ Same H H') ?_ (fun _ _ _ z => SqL.of z.1) ?_ ?_
    · refine ⟨?_, upd_same, ?_⟩
      · rw [upd_ne ndp.symm]; exact upd_same
      · exact same_trans (same_new hp) (same_new (by rw [upd_ne ndp]; exact hD))
    · rintro i x H1 H2 hi ⟨p1, p2, p3⟩ ⟨rfl, hx⟩
      obtain ⟨y, hy, rfl⟩ := str_at hx
      have my : y ∈ ks l := perm.mem_iff.mp (List.mem_of_getElem? hy)
      walk_at "hgo"
      refine ⟨rfl, ?_⟩
      walk_at "hgo"
      have q1 := p3 _ _ hd
      refine g_dget ?_
      walk_at "hgo"
      refine ⟨d, _, rfl, rd_at (.inl q1) my, ?_⟩
      walk_at "hgo"
      by_cases z : vl l y = 0
      · refine g_false (by simp [z]) ?_
        refine ⟨p1, ?_, p3⟩
        rw [mk_skip hy z]
        exact p2
      · refine g_true (by simp [z]) ?_
        walk_at "hgo"
        refine g_dget ?_
        walk_at "hgo"
        refine ⟨d, _, rfl, rd_at (.inl q1) my, ?_⟩
        refine ⟨_, Sum.inr y, rfl, p2, ?_, ?_, ?_, ?_⟩
        · have := mk_len (ys.take i) (vl l)
          have l2 : (ys.take i).length ≤ ys.length := by rw [List.length_take]; omega
          rw [DI_len]
          exact Nat.lt_of_lt_of_le (show (mk (ys.take i) (vl l)).length < 1000 by omega) (by decide)
        · rw [upd_ne ndp.symm]; exact p1
        · rw [upd_same, DI_put, mk_put ny hy z]
        · intro a o e
          rw [upd_ne (fun w => by rw [w, hD] at e; cases e)]
          exact p3 _ _ e
    · rintro H1 ⟨p1, p2, p3⟩
      rw [List.length_map, List.take_length] at p2
      have cn := can_mk (f := vl l) (sorted_pw srt ny)
      refine k D _ H1 hD p3 p2 ⟨cn, fun x => ?_, fun x hx => ?_, ?_⟩
      · rw [vl_mk ny]
        split
        · rfl
        · rename_i q
          exact (vl_none fun z => q (perm.mem_iff.mpr z)).symm
      · rw [ks_mk, List.mem_filter] at hx
        exact perm.mem_iff.mp hx.1
      · have := mk_len ys (vl l)
        omega
end
/-- numbers below 2 to b -/
def Bd (b : Nat) (l : IL) : Prop := ∀ k, (vl l k).natAbs < 2 ^ b

theorem ps_never {X : Cx} {st : Stmt} : PS X st (fun _ _ _ => False) := ⟨fun pins s σ H D I h => h.elim⟩
def gTwo {α : Type} : List α → List α → List α
  | [u], [v] => [u, v]
  | _, _ => []
structure TxtW (mg : Str → Option Value) : Prop where
  enumerate : mg "enumerate" = none
  max : mg "max" = none
  ValueError : mg "ValueError" = none
structure VF (K : PySem.W.Frag) (mg : Str → Option Value) where
  C : Addr
  pOf : Addr
  pRd : Addr
  pNm : Addr
  CL : Addr
  CT : Addr
  CN : Addr
  CM : Addr
  vd : Value
  mc : Value
  fIN : Addr
  dIN : FuncData
  fII : Addr
  dII : FuncData
  fGI : Addr
  dGI : FuncData
  fKN : Addr
  dKN : FuncData
  fLO : Addr
  dLO : FuncData
  fRN : Addr
  dRN : FuncData
  fRS : Addr
  dRS : FuncData
  fRV : Addr
  dRV : FuncData
  fNT : Addr
  dNT : FuncData
  fVT : Addr
  dVT : FuncData
  fLP : Addr
  dLP : FuncData
  fLD : Addr
  dLD : FuncData
  fLK : Addr
  dLK : FuncData
  fLW : Addr
  dLW : FuncData
  fLG : Addr
  dLG : FuncData
  fLH : Addr
  dLH : FuncData
  fLI : Addr
  dLI : FuncData
  fLU : Addr
  dLU : FuncData
  fLE : Addr
  dLE : FuncData
  fLB : Addr
  dLB : FuncData
  fLR : Addr
  dLR : FuncData
  fLQ : Addr
  dLQ : FuncData
  fI : Addr
  dI : FuncData
  fOF : Addr
  dOF : FuncData
  fRD : Addr
  dRD : FuncData
  fNM : Addr
  dNM : FuncData
  fGT : Addr
  dGT : FuncData
  fEQ : Addr
  dEQ : FuncData
  fST : Addr
  dST : FuncData
  fNI : Addr
  dNI : FuncData
  fWA : Addr
  dWA : FuncData
  fEA : Addr
  dEA : FuncData
  fTI : Addr
  dTI : FuncData
  t : TxtV mg
  u : TxtW mg
  F_is_name : Fun K "is_name" "is_name" s_is_name fIN dIN
  b_is_name : Binds K dIN ["value"] []
  g_is_name : mg "is_name" = some (.ref fIN)
  F_is_integer : Fun K "is_integer" "is_integer" s_is_integer fII dII
  b_is_integer : Binds K dII ["value"] []
  g_is_integer : mg "is_integer" = some (.ref fII)
  F_gives_integers : Fun K "gives_integers" "gives_integers" s_gives_integers fGI dGI
  b_gives_integers : Binds K dGI ["value"] []
  g_gives_integers : mg "gives_integers" = some (.ref fGI)
  F_kept_numbers : Fun K "kept_numbers" "kept_numbers" s_kept_numbers fKN dKN
  b_kept_numbers : Binds K dKN ["numbers"] []
  g_kept_numbers : mg "kept_numbers" = some (.ref fKN)
  F_line_of : Fun K "line_of" "line_of" s_line_of fLO dLO
  b_line_of : Binds K dLO ["text"] []
  g_line_of : mg "line_of" = some (.ref fLO)
  F_read_number : Fun K "read_number" "read_number" s_read_number fRN dRN
  b_read_number : Binds K dRN ["word", "most"] []
  g_read_number : mg "read_number" = some (.ref fRN)
  F_read_numbers : Fun K "read_numbers" "read_numbers" s_read_numbers fRS dRS
  b_read_numbers : Binds K dRS ["line", "start", "most"] []
  g_read_numbers : mg "read_numbers" = some (.ref fRS)
  F_read_vector : Fun K "read_vector" "read_vector" s_read_vector fRV dRV
  b_read_vector : Binds K dRV ["line", "start"] []
  g_read_vector : mg "read_vector" = some (.ref fRV)
  F_numbers_text : Fun K "numbers_text" "numbers_text" s_numbers_text fNT dNT
  b_numbers_text : Binds K dNT ["numbers"] []
  g_numbers_text : mg "numbers_text" = some (.ref fNT)
  F_vector_text : Fun K "vector_text" "vector_text" s_vector_text fVT dVT
  b_vector_text : Binds K dVT ["numbers"] []
  g_vector_text : mg "vector_text" = some (.ref fVT)
  F_law_pen : Fun K "_law_pen" "_law_pen" s_law_pen fLP dLP
  b_law_pen : Binds K dLP ["_law_script"] []
  g_law_pen : mg "_law_pen" = some (.ref fLP)
  F_law_draw : Fun K "_law_draw" "_law_draw" s_law_draw fLD dLD
  b_law_draw : Binds K dLD ["_law_pen_here", "_law_many"] []
  g_law_draw : mg "_law_draw" = some (.ref fLD)
  F_law_pick : Fun K "_law_pick" "_law_pick" s_law_pick fLK dLK
  b_law_pick : Binds K dLK ["_law_pen_here", "_law_some"] []
  g_law_pick : mg "_law_pick" = some (.ref fLK)
  F_law_word : Fun K "_law_word" "_law_word" s_law_word fLW dLW
  b_law_word : Binds K dLW ["_law_pen_here"] []
  g_law_word : mg "_law_word" = some (.ref fLW)
  F_law_great : Fun K "_law_great" "_law_great" s_law_great fLG dLG
  b_law_great : Binds K dLG ["_law_pen_here", "_law_most"] []
  g_law_great : mg "_law_great" = some (.ref fLG)
  F_law_whole : Fun K "_law_whole" "_law_whole" s_law_whole fLH dLH
  b_law_whole : Binds K dLH ["_law_pen_here"] []
  g_law_whole : mg "_law_whole" = some (.ref fLH)
  F_law_is_name : Fun K "_law_is_name" "_law_is_name" s_law_is_name fLI dLI
  b_law_is_name : Binds K dLI ["_law_thing"] []
  g_law_is_name : mg "_law_is_name" = some (.ref fLI)
  F_law_is_number : Fun K "_law_is_number" "_law_is_number" s_law_is_number fLU dLU
  b_law_is_number : Binds K dLU ["_law_digits"] []
  g_law_is_number : mg "_law_is_number" = some (.ref fLU)
  F_law_due : Fun K "_law_due" "_law_due" s_law_due fLE dLE
  b_law_due : Binds K dLE ["_law_text_so"] []
  g_law_due : mg "_law_due" = some (.ref fLE)
  F_law_bent : Fun K "_law_bent" "_law_bent" s_law_bent fLB dLB
  b_law_bent : Binds K dLB ["_law_pen_here", "_law_words"] []
  g_law_bent : mg "_law_bent" = some (.ref fLB)
  F_law_heard : Fun K "_law_heard" "_law_heard" s_law_heard fLR dLR
  b_law_heard : Binds K dLR ["_law_text_so"] []
  g_law_heard : mg "_law_heard" = some (.ref fLR)
  F_law_heard_right : Fun K "_law_heard_right" "_law_heard_right" s_law_heard_right fLQ dLQ
  b_law_heard_right : Binds K dLQ ["_law_text_so"] []
  g_law_heard_right : mg "_law_heard_right" = some (.ref fLQ)
  F_init : Fun K "__init__" "Vector.__init__" s_Vector___init__ fI dI
  F_of : Fun K "of" "Vector.of" s_Vector_of fOF dOF
  b_of : Binds K dOF ["cls", "numbers"] []
  F_read : Fun K "read" "Vector.read" s_Vector_read fRD dRD
  b_read : Binds K dRD ["cls", "text"] []
  F_names : Fun K "names" "Vector.names" s_Vector_names fNM dNM
  b_names : Binds K dNM ["self"] []
  F_item : Fun K "__getitem__" "Vector.__getitem__" s_Vector___getitem__ fGT dGT
  b_item : Binds K dGT ["self", "at"] []
  F_eq : Fun K "__eq__" "Vector.__eq__" s_Vector___eq__ fEQ dEQ
  b_eq : Binds K dEQ ["self", "other"] []
  F_str : Fun K "__str__" "Vector.__str__" s_Vector___str__ fST dST
  b_str : Binds K dST ["self"] []
  F_linit : Fun K "__init__" "Line.__init__" s_Line___init__ fNI dNI
  b_linit : Binds K dNI ["self", "index", "text"] []
  F_wordat : Fun K "word_at" "Line.word_at" s_Line_word_at fWA dWA
  b_wordat : Binds K dWA ["self", "at"] []
  F_endat : Fun K "end_at" "Line.end_at" s_Line_end_at fEA dEA
  b_endat : Binds K dEA ["self", "at"] []
  F_tinit : Fun K "__init__" "InvalidText.__init__" s_InvalidText___init__ fTI dTI
  b_tinit : Binds K dTI ["self", "line", "word"] []
  kb_read : KBinds K dRD ["cls", "text"] ["text"] gTwo gTwo
  g_Vector : mg "Vector" = some (.ref C)
  mk_V : Mk K C fI
  c_V : Cls K C
  n_num : NoAttr K C "_numbers"
  O_eq : OwnD K C "__eq__" fEQ
  O_item : OwnD K C "__getitem__" fGT
  O_str : OwnD K C "__str__" fST
  fn_item : PySem.W.fnIn K fGT = true
  ne_V : PySem.W.findIn K (.ref C) "__ne__" = some (some (.builtin "object.__ne__"))
  rd_V : CRead K C mc
  cm_of : CMet K C mc "of" pOf fOF
  cm_read : CMet K C mc "read" pRd fRD
  p_names : PropOf K C "names" pNm fNM
  nf_V : PySem.W.notFirst K C (.ref C) = true
  ca : PySem.W.findIn K (.ref C) "__class__" = some (some (.builtin "object.__class__"))
  cn : PySem.W.specialIn K (.builtin "object.__class__") "__get__" = some (some (.builtin "getset_descriptor.__get__"))
  ctk : PySem.W.takesIn K (.builtin "object.__class__") = some true
  cm : PySem.W.mroIn K C (.type "object") = some true
  notStr : PySem.W.kitOne K (.ref C) (.type "str") = some false
  g_Line : mg "Line" = some (.ref CL)
  mk_L : Mk K CL fNI
  c_L : Cls K CL
  n_index : NoAttr K CL "index"
  n_words : NoAttr K CL "words"
  m_wordat : Meth K CL "word_at" fWA
  m_endat : Meth K CL "end_at" fEA
  g_InvalidText : mg "InvalidText" = some (.ref CT)
  g_NetError : mg "NetError" = some (.ref CN)
  g_MissingError : mg "MissingError" = some (.ref CM)
  o_T : OexC K CT
  i_T : PySem.W.findIn K (.ref CT) "__init__" = some (some (.ref fTI))
  t_T : PySem.W.typeIn K (.ref fTI) = some (.type "function")
  n_line : PySem.W.findIn K (.ref CT) "line" = some none
  n_word : PySem.W.findIn K (.ref CT) "word" = some none
  ask_T : AskC K CT
  ex_T : PySem.W.exmAny K (.ref CT) [.ref CN, .ref CM] = some true
  k_TT : PySem.W.kitOne K (.ref CT) (.ref CT) = some true
  k_TV : PySem.W.kitOne K (.ref CT) (.type "ValueError") = some true
  g_vd : mg "VECTOR_DIGITS" = some vd
  r_vd : RelV (.int 60) vd

section
variable {K : PySem.W.Frag} {mg : Str → Option Value}
/-- the vector of l at a -/
structure VA (C : Addr) (H : Hp) (a : Addr) (l : IL) : Prop where
  ex : ∃ d dx, H a = some (.ins C dx [("_numbers", .ref d)]) ∧ H d = some (.dK (DI l))
  can : Can l
  ok : okL l
theorem VA.same {C : Addr} {H H' : Hp} {a : Addr} {l : IL} (v : VA C H a l) (s : Same H H') : VA C H' a l := by
  obtain ⟨⟨d, dx, h1, h2⟩, c, o⟩ := v
  exact ⟨⟨d, dx, s _ _ h1, s _ _ h2⟩, c, o⟩
theorem VA.but {C q : Addr} {H H' : Hp} {a : Addr} {l : IL} (v : VA C H a l) (t : But q H H') (n : a ≠ q) (hq : ∃ xs, H q = some (.lst xs)) : VA C H' a l := by
  obtain ⟨⟨d, dx, h1, h2⟩, c, o⟩ := v
  have nd : d ≠ q := fun e => by
    obtain ⟨xs, z⟩ := hq
    rw [e, z] at h2
    cases h2
  exact ⟨⟨d, dx, t.st _ _ n h1, t.st _ _ nd h2⟩, c, o⟩
theorem VA.inst {C : Addr} {H : Hp} {a : Addr} {l : IL} (v : VA C H a l) : InsAt H a C := by
  obtain ⟨⟨d, dx, h1, h2⟩, c, o⟩ := v
  exact ⟨dx, _, h1⟩
theorem VA.nd {C : Addr} {H : Hp} {a : Addr} {l : IL} (v : VA C H a l) : (ks l).Nodup := pw_nodup v.can.asc
theorem VA.ty {C : Addr} {H : Hp} {a : Addr} {l : IL} (v : VA C H a l) (V : VF K mg) (e : C = V.C) : TyX K H (.ref a) (.ref C) := by
  obtain ⟨⟨d, dx, h1, h2⟩, c, o⟩ := v
  subst e
  exact .base (.ins h1 V.c_V V.ca V.cn V.ctk V.cm)
def spInit (C : Addr) : Sp := fun vs H Q _ => ∃ x d dx l, vs = [.ref x, .ref d] ∧ H x = some (.ins C dx []) ∧ H d = some (.dK (DI l)) ∧ okL l ∧ (ks l).Nodup ∧ l.length ≤ 60 ∧
  ∀ p r H', H p = none → Oth x H H' → H' x = some (.ins C dx [("_numbers", .ref p)]) → H' p = some (.dK (DI r)) → Kept l r → Q .non H'
def skInit (C : Addr) : SpK := fun vs l H Q E => ∃ x, vs = [x] ∧ (∀ p ∈ l, p.1 ≠ "self") ∧ l.length ≤ sizeLine ∧ ∀ d, H d = none → spInit C [x, .ref d] (upd H d (.dK (kwK l))) Q E
def spOf (C : Addr) : Sp := fun vs H Q _ => ∃ d l, vs = [.ref C, .ref d] ∧ H d = some (.dK (DI l)) ∧ okL l ∧ (ks l).Nodup ∧ l.length ≤ 60 ∧
  ∀ a r H', H a = none → Same H H' → VA C H' a r → Kept l r → Q (.ref a) H'
def spNames (C : Addr) : Sp := fun vs H Q _ => ∃ a l, vs = [.ref a] ∧ VA C H a l ∧ ∀ p, H p = none → Q (.ref p) (upd H p (.tup ((ks l).map V.str)))
def spItem (C : Addr) : Sp := fun vs H Q _ => ∃ a l k d dx, vs = [.ref a, .str k] ∧ H a = some (.ins C dx [("_numbers", .ref d)]) ∧ Rd H d (.dK (DI l)) ∧ okS k = true ∧ Q (.int (vl l k)) H
def spLen (C : Addr) : Sp := fun vs H Q _ => ∃ a l, vs = [.ref a] ∧ VA C H a l ∧ Q (.int l.length) H
def spBool (C : Addr) : Sp := fun vs H Q _ => ∃ a l, vs = [.ref a] ∧ VA C H a l ∧ Q (.bl (!l.isEmpty)) H
def spAdd (C : Addr) (t : Int) : Sp := fun vs H Q _ => ∃ a b l m, vs = [.ref a, .ref b] ∧ VA C H a l ∧ VA C H b m ∧ l.length ≤ 20 ∧ m.length ≤ 20 ∧ Bd 1000 m ∧
  ∀ c r H', H c = none → Same H H' → VA C H' c r → r.length ≤ l.length + m.length → (∀ k, vl r k = vl l k + vl m k * t) → Q (.ref c) H'
def spMul (C : Addr) : Sp := fun vs H Q _ => ∃ a l t, vs = [.ref a, .int t] ∧ VA C H a l ∧ l.length ≤ 20 ∧ Bd 1000 l ∧ t.natAbs < 2 ^ 1000 ∧
  ∀ c r H', H c = none → Same H H' → VA C H' c r → r.length ≤ l.length → (∀ k, vl r k = vl l k * t) → Q (.ref c) H'
def spNeg (C : Addr) : Sp := fun vs H Q _ => ∃ a l, vs = [.ref a] ∧ VA C H a l ∧ l.length ≤ 20 ∧ Bd 1000 l ∧
  ∀ c r H', H c = none → Same H H' → VA C H' c r → r.length ≤ l.length → (∀ k, vl r k = vl l k * -1) → Q (.ref c) H'
def spEq (C : Addr) : Sp := fun vs H Q _ => ∃ a b l m, vs = [.ref a, .ref b] ∧ VA C H a l ∧ VA C H b m ∧ Q (.bl (decide (l = m))) H
end
theorem g_setf {K : PySem.W.Frag} {ta tv : TE} {f : Str} {D : Ends} {σ : L2.St} {H : Hp} (h : tv σ H fun y H1 => ta σ H1 fun x H2 => ∃ a C dx fs, x = .ref a ∧ H2 a = some (.ins C dx fs) ∧ Cls K C ∧ NoAttr K C f ∧ fs.length < 1000 ∧ D.nx σ (upd H2 a (.ins C dx (putF f y fs)))) : sFld K ta tv f D σ H := h
theorem g_at {K : PySem.W.Frag} {ta : TE} {f : Str} {σ : L2.St} {H : Hp} {Q : VK} (h : ta σ H fun x H1 => ∃ a C dx fs v, x = .ref a ∧ H1 a = some (.ins C dx fs) ∧ Cls K C ∧ NoAttr K C f ∧ fs.lookup f = some v ∧ Q v H1) : L2.tFld K ta f σ H Q := h
theorem g_keysF {K : PySem.W.Frag} {f : Str} {ta : TE} {σ : L2.St} {H : Hp} {R : It → Hp → Prop} (h : L2.tFld K ta f σ H fun x H1 => ∃ d o kvs, x = .ref d ∧ H1 d = some (.frz o (.dK kvs)) ∧ R (Itk d o kvs) H1) (tm : ∀ {Q Q' : VK}, (∀ v H', Q v H' → Q' v H') → ta σ H Q → ta σ H Q' := by intro Q Q' i z; obtain ⟨v, h1, h2⟩ := z; exact ⟨v, h1, i _ _ h2⟩) : iKeys (L2.tFld K ta f) σ H R :=
  tm (fun x H1 z => by
    obtain ⟨a, C, dx, fs, v, e1, e2, e3, e4, e5, d, o, kvs, e, h1, r⟩ := z
    exact ⟨a, C, dx, fs, v, e1, e2, e3, e4, e5, d, o, e, .inl ⟨kvs, h1, r⟩⟩) h
theorem kit_self {K : PySem.W.Frag} {C : Addr} : PySem.W.kitOne K (.ref C) (.ref C) = some true := by unfold PySem.W.kitOne; rw [if_pos (beq_self_eq_true _)]
theorem pe_dgetF {X : Cx} {K : PySem.W.Frag} {o i : Expr} {f : Str} {p pos : Pos} {ta ty : TE} (hK : X.K = K) (hu : X.A.units + 1 < cLine) (ho : PE X o ta) (hi : PE X i ty) (hb : attributeBase o f X.env (eval o X.env) = eval o X.env) (hs : NoSl i) : PE X (.Subscript (.Attribute o f p) i pos) (tDGet (L2.tFld K ta f) ty) := by
  subst hK
  exact pe_dget hu (L2.pe_fld ho hb) hi hs
theorem none_back {H H' : Hp} {p : Addr} (s : Same H H') (n : H' p = none) : H p = none := by
  cases e : H p with
  | none => rfl
  | some o => rw [s _ _ e] at n; cases n
theorem okS_self {s : Str} (h : okS s = true) : s ≠ "self" := by
  unfold okS at h
  simp only [Bool.and_eq_true, Bool.not_eq_true', decide_eq_false_iff_not] at h
  exact h.1.2
section
variable {P : Program} {w : World} {K : PySem.W.Frag} {mg : Str → Option Value} {base : Heap}
theorem k_is_name (V : VF K mg) : FnOk P w K mg base CX0 1 V.fIN V.dIN ["value"] (spIs K okV) := ok_is_name V.F_is_name V.t.n
theorem k_gives_integers (V : VF K mg) : FnOk P w K mg base CX0 2 V.fGI V.dGI ["value"] spGives := ok_gives_integers V.F_gives_integers V.t V.F_is_name V.b_is_name V.g_is_name V.F_is_integer V.b_is_integer V.g_is_integer
theorem k_kept_numbers (V : VF K mg) : FnOk P w K mg base CX0 1 V.fKN V.dKN ["numbers"] spKept := ok_kept_numbers V.F_kept_numbers V.t
theorem k_init (V : VF K mg) : FnK P w K mg base CX0 4 V.fI (skInit V.C) := by
  have G_gives_integers := k_gives_integers (P := P) (w := w) (base := base) V
  have G_kept_numbers := k_kept_numbers (P := P) (w := w) (base := base) V
  obtain ⟨oc, od, kV, doc, pm, an, cdv, ct, osl, e, lk, hcd⟩ := V.F_init.ex
  rw [e] at lk
  refine fnK1 (k := 3) (p1 := "self") (pd := "numbers") lk hcd sc_Vector___init__ (fun _ _ _ _ _ _ _ _ _ _ _ h => h) rfl rfl rfl rfl rfl rfl rfl (fun A outer s H vs Q E hr h => ?_)
  obtain ⟨x, d, dx, l, rfl, hx, hd, ok, nd, len, k⟩ := h
  have hu := hu_of hr
  have T := V.t
  refine ⟨_, (pss_cons (ps_if (pt_not (pt_val (pe_call G_gives_integers (hr.mono (by decide)) (by rfl) V.g_gives_integers V.F_gives_integers.kp V.b_gives_integers .nil pass0 (pa_cons (pv 1) pa_nil)))) (pss_one ps_never) pss_nil)
      (pss_one (ps_fld (pv 0) (pe_call G_kept_numbers (hr.mono (by decide)) (by rfl) V.g_kept_numbers V.F_kept_numbers.kp V.b_kept_numbers .nil pass0 (pa_cons (pv 1) pa_nil)) rfl))), ?_⟩
  try dsimp only [cxOf]
  walk_at "hline"
  refine ⟨d, l, rfl, hd, ok, by omega, ?_⟩
  intro H1 s1
  walk_at "hgo"
  refine g_setf ?_
  walk_at "hx"
  refine ⟨d, l, rfl, s1 _ _ hd, nd, by omega, ?_⟩
  intro p r H2 np s2 hp kp
  walk_at "hx"
  have hx2 := s2 _ _ (s1 _ _ hx)
  have npx : p ≠ x := fun z => by rw [z, s1 _ _ hx] at np; cases np
  refine ⟨x, V.C, dx, [], rfl, hx2, V.c_V, V.n_num, by decide, ?_⟩
  walk_at "hx"
  refine k p r _ (none_back s1 np) (fun a o n z => by rw [upd_ne n]; exact s2 _ _ (s1 _ _ z)) upd_same ?_ kp
  rw [upd_ne npx]
  exact hp
theorem insq_of {C : Addr} {H : Hp} {Q : VK} {E : XK} {l : IL} (ok : okL l) (nd : (ks l).Nodup) (len : l.length ≤ 60) (k : ∀ a r H', H a = none → Same H H' → VA C H' a r → Kept l r → Q (.ref a) H') :
    InsQ C (skInit C) [] (l.map fun p => (p.1, V.int p.2)) H Q E := by
  intro x dx hx hdx ne
  refine ⟨.ref x, rfl, fun p hp => ?_, ?_, fun d hd => ?_⟩
  · obtain ⟨q, hq, rfl⟩ := List.mem_map.mp hp
    exact okS_self (ok q.1 (List.mem_map_of_mem hq))
  · rw [List.length_map]
    exact Nat.le_trans (show l.length ≤ 1000 by omega) (by decide)
  · have ndx : d ≠ x := fun z => by rw [z, upd_same] at hd; cases hd
    have hd1 : H d = none := by
      rw [upd_ne ndx] at hd
      by_cases z : d = dx
      · rw [z]; exact hdx
      · rw [upd_ne z] at hd; exact hd
    refine ⟨x, d, dx, l, rfl, ?_, ?_, ok, nd, len, ?_⟩
    · rw [upd_ne ndx.symm]; exact upd_same
    · rw [upd_same, DI_kw]
    · intro p r H' np ot h1 h2 kp
      refine ⟨rfl, ?_⟩
      refine k x r H' hx (fun a o z => ?_) ⟨⟨p, dx, h1, h2⟩, kp.can, fun y hy => ok y (kp.sub y hy)⟩ kp
      have n1 : a ≠ x := ne_of_none z hx
      refine ot a o n1 ?_
      rw [upd_ne (ne_of_none z hd1), upd_ne n1, upd_ne (ne_of_none z hdx)]
      exact z
/-- C(**d) -/
theorem g_newS {C : Addr} {E : XK} {tf te : TE} {σ : L2.St} {H : Hp} {Q : VK} (h : tf σ H fun y H1 => y = .ref C ∧ te σ H1 fun z H2 => ∃ a l, z = .ref a ∧ H2 a = some (.dK (kwK l)) ∧ InsQ C (skInit C) [] l H2 Q E) : tNewS C (skInit C) E tf te σ H Q := h
theorem new_of {C : Addr} {H : Hp} {Q : VK} {E : XK} {d : Addr} {l : IL} (hd : H d = some (.dK (DI l))) (ok : okL l) (nd : (ks l).Nodup) (len : l.length ≤ 60) (k : ∀ a r H', H a = none → Same H H' → VA C H' a r → Kept l r → Q (.ref a) H') :
    ∃ a l', V.ref d = .ref a ∧ H a = some (.dK (kwK l')) ∧ InsQ C (skInit C) [] l' H Q E := ⟨d, _, rfl, by rw [hd, DI_kw], insq_of ok nd len k⟩
theorem ok_of (V : VF K mg) : FnOk P w K mg base CX0 6 V.fOF V.dOF ["cls", "numbers"] (spOf V.C) := by
  have G_gives_integers := k_gives_integers (P := P) (w := w) (base := base) V
  have G_init := k_init (P := P) (w := w) (base := base) V
  refine V.F_of.ok sc_Vector_of (fun vs H Q E h => ?_) (fun cdv A outer s H vs Q E hr h => ?_)
  · obtain ⟨d, l, rfl, _⟩ := h
    rfl
  · obtain ⟨d, l, rfl, hd, ok, nd, len, k⟩ := h
    have hu := hu_of hr
    have T := V.t
    refine ⟨_, (pss_cons (ps_if (pt_not (pt_val (pe_call G_gives_integers (hr.mono (by decide)) (by rfl) V.g_gives_integers V.F_gives_integers.kp V.b_gives_integers .nil pass0 (pa_cons (pv 1) pa_nil)))) (pss_one ps_never) pss_nil)
      (pss_one (ps_ret (pe_newS (pv 0) V.mk_V G_init (hr.mono (by decide)) pass0 (pv 1))))), ?_⟩
    try dsimp only [cxOf]
    walk_at "hline"
    refine ⟨d, l, rfl, hd, ok, by omega, ?_⟩
    intro H1 s1
    walk_at "hgo"
    refine g_newS ?_
    walk_at "hgo"
    refine ⟨rfl, ?_⟩
    walk_at "hgo"
    exact new_of (s1 _ _ hd) ok nd len fun a r H' na s2 v kp => k a r H' (none_back s1 na) (same_trans s1 s2) v kp
theorem ok_names (V : VF K mg) : FnOk P w K mg base CX0 1 V.fNM V.dNM ["self"] (spNames V.C) := by
  refine V.F_names.ok sc_Vector_names (fun vs H Q E h => ?_) (fun cdv A outer s H vs Q E hr h => ?_)
  · obtain ⟨a, l, rfl, _⟩ := h
    rfl
  · obtain ⟨a, l, rfl, v, k⟩ := h
    obtain ⟨⟨d, dx, h1, h2⟩, cn, ok⟩ := v
    have hu := hu_of hr
    have T := V.t
    refine ⟨_, (pss_one (ps_ret (pe_callTy (KwX.call_tupleD rfl) (by rfl) T.tuple (by decide +kernel) (pa_cons (L2.pe_fld (pv 0) (by rfl)) pa_nil)))), ?_⟩
    try dsimp only [cxOf]
    walk_at "hgo"
    refine g_at ?_
    walk_at "hgo"
    refine ⟨a, V.C, dx, _, .ref d, rfl, h1, V.c_V, V.n_num, rfl, ?_⟩
    walk_at "hgo"
    refine ⟨d, _, rfl, .inl h2, ?_⟩
    intro p hp
    have e : ((DI l).map fun kv => kV kv.1) = (ks l).map L2.V.str := by unfold DI ks; rw [List.map_map, List.map_map]; rfl
    rw [e]
    exact k p hp
theorem ok_item (V : VF K mg) : FnOk P w K mg base CX0 1 V.fGT V.dGT ["self", "at"] (spItem V.C) := by
  refine V.F_item.ok sc_Vector___getitem__ (fun vs H Q E h => ?_) (fun cdv A outer s H vs Q E hr h => ?_)
  · obtain ⟨a, l, x, d, dx, rfl, _⟩ := h
    rfl
  · obtain ⟨a, l, x, d, dx, rfl, h1, h2, okx, k⟩ := h
    have hu := hu_of hr
    have T := V.t
    refine ⟨_, (pss_cons (ps_if (pt_not (pt_val (pe_callB call_isi (by rfl) T.isinstance (by decide +kernel) (pa_cons (pv 1) (pa_cons (pe_bltn (v := .ty "str") (u := .type "str") (by rfl) T.str (by decide +kernel) rfl) pa_nil))))) (pss_one (ps_ret pe_int)) pss_nil)
      (pss_one (ps_ret (pe_dget2 hu (L2.pe_fld (pv 0) (by rfl)) (pv 1) pe_int ⟨rfl, rfl, rfl, rfl⟩)))), ?_⟩
    try dsimp only [cxOf]
    walk_at "hgo"
    refine g_isi (kd_name okx).ty (b := true) (by decide +kernel) ?_
    walk_at "hgo"
    refine g_dget2 ?_
    refine g_at ?_
    walk_at "hgo"
    refine ⟨a, V.C, dx, _, .ref d, rfl, h1, V.c_V, V.n_num, rfl, ?_⟩
    refine ⟨d, rfl, .inl ⟨_, h2⟩, ?_⟩
    walk_at "hgo"
    refine ⟨_, rd_get h2, ?_⟩
    rw [get0]
    exact k
end

theorem len_sub : ∀ {l m : List Str}, l.Nodup → (∀ x ∈ l, x ∈ m) → l.length ≤ m.length
  | [], _, _, _ => Nat.zero_le _
  | x :: r, m, n, h => by
    obtain ⟨n1, n2⟩ := List.nodup_cons.mp n
    have hx : x ∈ m := h x List.mem_cons_self
    have := len_sub (m := m.erase x) n2 fun y hy => (List.mem_erase_of_ne (fun (e : y = x) => n1 (by rw [← e]; exact hy))).mpr (h y (List.mem_cons_of_mem _ hy))
    rw [List.length_erase_of_mem hx] at this
    have := List.length_pos_of_mem hx
    rw [List.length_cons]
    omega
theorem sub_all {l m : List Str} (n : l.Nodup) (h : ∀ x ∈ l, x ∈ m) (e : l.length = m.length) : ∀ x ∈ m, x ∈ l := fun x hx => Classical.byContradiction fun q => by
  have := len_sub (m := m.erase x) n fun y hy => (List.mem_erase_of_ne (fun (z : y = x) => q (by rw [← z]; exact hy))).mpr (h y hy)
  rw [List.length_erase_of_mem hx] at this
  have := List.length_pos_of_mem hx
  omega
theorem eq_can {l m : IL} (c : Can l) (d : Can m) : ((DI l).length == (DI m).length && (DI l).all (hitI (DI m))) = decide (l = m) := by
  rw [Bool.eq_iff_iff, Bool.and_eq_true, beq_iff_eq, List.all_eq_true, decide_eq_true_eq, DI_len, DI_len]
  constructor
  · rintro ⟨e, h⟩
    have hit : ∀ k ∈ ks l, k ∈ ks m ∧ vl m k = vl l k := by
      intro k hk
      obtain ⟨p, hp, rfl⟩ := List.mem_map.mp hk
      have q := h (Sum.inr p.1, L2.V.int p.2) (List.mem_map_of_mem (f := fun p : Str × Int => ((Sum.inr p.1 : Key), L2.V.int p.2)) hp)
      unfold hitI at q
      rw [DI_val] at q
      by_cases z : p.1 ∈ ks m
      · rw [look_some z] at q
        have q2 : L2.V.int (vl m p.1) = L2.V.int p.2 := of_decide_eq_true q
        exact ⟨z, by rw [V.int.inj q2, vl_mem (pw_nodup c.asc) hp]⟩
      · rw [look_none z] at q
        cases q
    refine c.ext d fun k => ?_
    by_cases z : k ∈ ks l
    · exact (hit k z).2.symm
    · have z2 : k ∉ ks m := fun w => z (sub_all (pw_nodup c.asc) (fun x hx => (hit x hx).1) (by rw [ks_len, ks_len]; exact e) k w)
      rw [vl_none z, vl_none z2]
  · rintro rfl
    refine ⟨rfl, fun p hp => ?_⟩
    unfold DI at hp
    obtain ⟨q, hq, rfl⟩ := List.mem_map.mp hp
    unfold hitI
    show (match valV (DI l) (Sum.inr q.1 : Key) with | some v => decide (v = L2.V.int q.2) | none => false) = true
    rw [DI_val, look_some (List.mem_map_of_mem hq), vl_mem (pw_nodup c.asc) hq]
    exact decide_eq_true rfl
section
variable {P : Program} {w : World} {K : PySem.W.Frag} {mg : Str → Option Value} {base : Heap}
theorem ok_eq (V : VF K mg) : FnOk P w K mg base CX0 1 V.fEQ V.dEQ ["self", "other"] (spEq V.C) := by
  refine V.F_eq.ok sc_Vector___eq__ (fun vs H Q E h => ?_) (fun cdv A outer s H vs Q E hr h => ?_)
  · obtain ⟨a, b, l, m, rfl, _⟩ := h
    rfl
  · obtain ⟨a, b, l, m, rfl, va, vb, k⟩ := h
    have hu := hu_of hr
    have T := V.t
    refine ⟨_, (pss_one (ps_ret (pe_and (pe_callB call_isi (by rfl) T.isinstance (by decide +kernel) (pa_cons (pv 1) (pa_cons (pe_glob (v := .ref V.C) rfl V.g_Vector rfl) pa_nil))) (pe_one (pe_cmpR (KwX.op_eqDI (hr.units0)) (L2.pe_fld (pv 0) (by rfl)) (L2.pe_fld (pv 1) (by rfl)) (nomark _)))))), ?_⟩
    try dsimp only [cxOf]
    obtain ⟨⟨d, dx, h1, h2⟩, cn, ok⟩ := id va
    obtain ⟨⟨e, ex, g1, g2⟩, cm, om⟩ := id vb
    walk_at "hgo"
    refine ⟨.ref b, .ref V.C, .ref V.C, .ref V.C, true, rfl, .own V.C, vb.ty V rfl, kit_self, ?_⟩
    walk_at "hgo"
    refine g_at ?_
    walk_at "hgo"
    refine ⟨a, V.C, dx, _, .ref d, rfl, h1, V.c_V, V.n_num, rfl, ?_⟩
    refine g_at ?_
    walk_at "hgo"
    refine ⟨b, V.C, ex, _, .ref e, rfl, g1, V.c_V, V.n_num, rfl, ?_⟩
    refine ⟨d, e, DI l, DI m, rfl, rfl, h2, g2, DI_int, fun _ _ => DI_some, ?_⟩
    rw [eq_can cn cm]
    exact k
end

def tJoined (ts : List TE) : TE := fun σ H Q => tJs ts Str.empty σ H fun out H1 => Q (.str out) H1
theorem pe_joinedN {X : Cx} {v1 v2 : Expr} {rest : List Expr} {ts : List TE} {pos : Pos} (h : PJ X (v1 :: v2 :: rest) ts) : PE X (.JoinedStr (v1 :: v2 :: rest) pos) (tJoined ts) := pe_joined h
/-- one word of a vector's text -/
def entry (k : Str) (i : Int) : Str := ((Str.empty ++ k) ++ Str.ofString "=") ++ Str.ofString (toString i)
def words (l : IL) : List Str := (ks l).map fun k => entry k (vl l k)
def textOf (l : IL) : Str := if l = [] then Str.ofString "0" else Txt.join (Str.ofString " ") (words l)
theorem entry_len {k : Str} {i : Int} (hk : okS k = true) (hi : i.natAbs < 2 ^ 1000) : (entry k i).length ≤ 1012 := by
  have h1 := okS_len hk
  have h2 : (Str.ofString (toString i)).length ≤ 1001 := by
    rw [PySem.ofString_length]
    exact int_text_length_le (by decide) (PySem.Flt.log2_lt_of (by decide) hi)
  have h3 : (Str.ofString "=").length = 1 := by decide +kernel
  have h4 : (Str.empty ++ k).length = k.length := by rw [strLen_append]; have : Str.empty.length = 0 := rfl; omega
  unfold entry
  rw [strLen_append, strLen_append, h4, h3]
  omega
theorem sum_le {n : Nat} : ∀ {xs : List Nat}, (∀ x ∈ xs, x ≤ n) → xs.sum ≤ xs.length * n
  | [], _ => Nat.zero_le _
  | x :: r, h => by
    have a := sum_le (xs := r) fun y hy => h y (List.mem_cons_of_mem _ hy)
    have b := h x List.mem_cons_self
    rw [List.sum_cons, List.length_cons, Nat.add_mul, Nat.one_mul]
    omega
def spText : Sp := fun vs H Q _ => ∃ d l, vs = [.ref d] ∧ H d = some (.dK (DI l)) ∧ okL l ∧ l.length ≤ 100 ∧ Bd 1000 l ∧ ∀ H', Same H H' → Q (.str (Txt.join (Str.ofString " ") (words l))) H'
def spVText : Sp := fun vs H Q _ => ∃ d l, vs = [.ref d] ∧ H d = some (.dK (DI l)) ∧ okL l ∧ l.length ≤ 100 ∧ Bd 1000 l ∧ ∀ H', Same H H' → Q (.str (textOf l)) H'
section
variable {P : Program} {w : World} {K : PySem.W.Frag} {mg : Str → Option Value} {base : Heap}
theorem ok_numbers_text {f : Addr} {fd : FuncData} (F : Fun K "numbers_text" "numbers_text" s_numbers_text f fd) (T : TxtV mg) : FnOk P w K mg base CX0 1 f fd ["numbers"] spText := by
  refine F.ok sc_numbers_text (fun vs H Q E h => ?_) (fun cdv A outer s H vs Q E hr h => ?_)
  · obtain ⟨d, l, rfl, _⟩ := h
    rfl
  · obtain ⟨d, l, rfl, hd, ok, few, bd, k⟩ := h
    have hu := hu_of hr
    refine ⟨_, (pss_one (ps_ret (pe_joinJ pe_str (pe_lock (pe_lc (own := [("name", 1)]) (g := gName 1) rfl sc_numbers_text.nd (pi_keys (pv 0)) (blkOk_by (own := [("name", 1)]) (N := N_numbers_text) (sc := defScope s_numbers_text) (by decide +kernel)) (fun _ _ _ _ _ => pg_name (i := 1) sc_numbers_text.nd rfl (Or.inl rfl)) (fun _ _ _ _ _ => pts_nil) (fun _ _ _ _ _ => (pe_joinedN (.cons (pe_fmt (pv 1)) (.cons pe_str (.cons (pe_fmt (pe_dget hu (pv 0) (pv 1) (fun _ _ => rfl))) .nil)))))))))), ?_⟩
    try dsimp only [cxOf]
    walk_at "hgo"
    refine g_lockE d _ hd trivial fun od => ?_
    walk_at "hgo"
    refine g_keysV rfl upd_same fun D hD => ?_
    have ndD : D ≠ d := fun e => by rw [e, upd_same] at hD; cases hD
    rw [upd_ne ndD] at hD
    have step : ∀ (i : Nat) (x : Str), (ks l)[i]? = some x → (words l).take (i + 1) = (words l).take i ++ [entry x (vl l x)] := fun i x h => by
      rw [List.take_add_one]
      unfold words
      rw [List.getElem?_map, h]
      rfl
    refine lc_it walk_keys (fun i H' => H' d = some (.frz od (.dK (DI l))) ∧ H' D = some (.lst (((words l).take i).map V.str)) ∧ Oth d H H') ?_ (fun _ _ _ z => z.1) ?_ ?_
    · refine ⟨?_, upd_same, ?_⟩
      · rw [upd_ne ndD.symm]; exact upd_same
      · exact (oth_upd (H := H)).put hD
    · rintro i x H1 H2 hi ⟨p1, p2, p3⟩ ⟨rfl, ky, v, hkv, rfl⟩
      obtain ⟨x, j, hx, rfl, rfl, mx⟩ := di_at hkv
      have hk : (ks l)[i]? = some x := by unfold ks; rw [List.getElem?_map, hx]; rfl
      have okx := ok x mx
      have lx := okS_len okx
      have bx := PySem.Flt.log2_lt_of (by decide) (bd x)
      have le := entry_len okx (bd x)
      have big : 5000 ≤ sizeLine := by decide
      have h0 : Str.empty.length = 0 := rfl
      have h1 : (Str.ofString "=").length = 1 := by decide +kernel
      walk_at "hgo"
      refine ⟨rfl, ?_⟩
      walk_at "hgo"
      refine ⟨.str x, rfl, .inl ⟨x, rfl, by omega, x, rfl, by rw [strLen_append]; omega, ?_⟩⟩
      refine ⟨_, rfl, by rw [strLen_append, strLen_append]; omega, ?_⟩
      refine ⟨.ref d, rfl, .str x, rfl, d, _, rfl, rd_at (.inr ⟨od, p1⟩) mx, .inr ⟨_, rfl, by omega, _, rfl, ?_, ?_⟩⟩
      · exact Nat.le_trans le (by omega)
      · refine ⟨_, p2, ?_, ?_, upd_same.trans ?_, ?_⟩
        · rw [List.length_map, List.length_take]
          unfold words
          rw [List.length_map, ks_len]
          exact Nat.lt_of_lt_of_le (show min i l.length < 1000 by omega) (by decide)
        · rw [upd_ne ndD.symm]; exact p1
        · rw [step i x hk, List.map_append]; rfl
        · exact p3.put hD
    · rintro H1 ⟨p1, p2, p3⟩
      refine ⟨p1, ?_⟩
      have lw : (words l).length = l.length := by unfold words; rw [List.length_map, ks_len]
      rw [DI_len, ← lw, List.take_length] at p2
      have e : upd H1 d (.dK (DI l)) D = some (.lst ((words l).map V.str)) := by rw [upd_ne ndD]; exact p2
      refine g_join (SqL.of e) ?_ (k _ (p3.back hd))
      have sl := sum_le (n := 1012) (xs := (words l).map (·.length)) fun y hy => by
        obtain ⟨t, ht, rfl⟩ := List.mem_map.mp hy
        unfold words at ht
        obtain ⟨q, hq, rfl⟩ := List.mem_map.mp ht
        exact entry_len (ok q hq) (bd q)
      rw [List.length_map, lw] at sl
      have h2 : (Str.ofString " ").length = 1 := by decide +kernel
      rw [lw, h2]
      omega
theorem ok_vector_text {f fN : Addr} {fd dN : FuncData} (F : Fun K "vector_text" "vector_text" s_vector_text f fd) (T : TxtV mg) (F_numbers_text : Fun K "numbers_text" "numbers_text" s_numbers_text fN dN) (b_numbers_text : Binds K dN ["numbers"] []) (g_numbers_text : mg "numbers_text" = some (.ref fN)) :
    FnOk P w K mg base CX0 2 f fd ["numbers"] spVText := by
  have G_numbers_text := ok_numbers_text (P := P) (w := w) (base := base) F_numbers_text T
  refine F.ok sc_vector_text (fun vs H Q E h => ?_) (fun cdv A outer s H vs Q E hr h => ?_)
  · obtain ⟨d, l, rfl, _⟩ := h
    rfl
  · obtain ⟨d, l, rfl, hd, ok, few, bd, k⟩ := h
    have hu := hu_of hr
    refine ⟨_, (pss_cons (ps_if (pt_not (pt_truth (pv 0) (by intro _; rfl))) (pss_one (ps_ret pe_str)) pss_nil)
      (pss_one (ps_ret (pe_call G_numbers_text (hr.mono (by decide)) (by rfl) g_numbers_text F_numbers_text.kp b_numbers_text .nil pass0 (pa_cons (pv 0) pa_nil))))), ?_⟩
    try dsimp only [cxOf]
    refine g_seq ?_
    walk_at "hx"
    refine ⟨!(DI l).isEmpty, .inr (.inr ⟨_, hd, rfl⟩), ?_⟩
    by_cases e : l = []
    · subst e
      refine g_true rfl ?_
      walk_at "hgo"
      exact k H (Same.refl H)
    · have ne : (DI l).isEmpty = false := by
        cases l with
        | nil => exact absurd rfl e
        | cons a r => rfl
      rw [ne]
      refine g_false rfl ?_
      walk_at "hgo"
      refine ⟨d, l, rfl, hd, ok, few, bd, fun H' s => ?_⟩
      have := k H' s
      unfold textOf at this
      rw [if_neg e] at this
      walk_at "hgo"
      exact this
def spStr (C : Addr) : Sp := fun vs H Q _ => ∃ a l, vs = [.ref a] ∧ VA C H a l ∧ l.length ≤ 100 ∧ Bd 1000 l ∧ ∀ H', Same H H' → Q (.str (textOf l)) H'
theorem ok_str {C f fT : Addr} {fd dT : FuncData} (F : Fun K "__str__" "Vector.__str__" s_Vector___str__ f fd) (T : TxtV mg) (c : Cls K C) (n : NoAttr K C "_numbers") (G_vector_text : FnOk P w K mg base CX0 2 fT dT ["numbers"] spVText)
    (F_vector_text : Fun K "vector_text" "vector_text" s_vector_text fT dT) (b_vector_text : Binds K dT ["numbers"] []) (g_vector_text : mg "vector_text" = some (.ref fT)) : FnOk P w K mg base CX0 3 f fd ["self"] (spStr C) := by
  refine F.ok sc_Vector___str__ (fun vs H Q E h => ?_) (fun cdv A outer s H vs Q E hr h => ?_)
  · obtain ⟨a, l, rfl, _⟩ := h
    rfl
  · obtain ⟨a, l, rfl, v, few, bd, k⟩ := h
    obtain ⟨⟨d, dx, h1, h2⟩, cn, ok⟩ := v
    have hu := hu_of hr
    refine ⟨_, (pss_one (ps_ret (pe_callTy SkE.call_str_str (by rfl) T.str (by decide +kernel) (pa_cons (pe_call G_vector_text (hr.mono (by decide)) (by rfl) g_vector_text F_vector_text.kp b_vector_text .nil pass0 (pa_cons (L2.pe_fld (pv 0) (by rfl)) pa_nil)) pa_nil)))), ?_⟩
    try dsimp only [cxOf]
    walk_at "hgo"
    refine g_at ?_
    walk_at "hgo"
    refine ⟨a, C, dx, _, .ref d, rfl, h1, c, n, rfl, ?_⟩
    walk_at "hgo"
    refine ⟨d, l, rfl, h2, ok, few, bd, fun H' s => ?_⟩
    walk_at "hgo"
    exact ⟨_, rfl, k H' s⟩
end

section
open PySem.Builtin PySem.Builtin.Str
/-! numbers in texts -/
def bare (l : List Nat) : List Nat := if l.head? = some 45 then l.tail else l
def dig (c : Nat) : Bool := decide (48 ≤ c) && decide (c ≤ 57)
def numB (w : Str) : Bool := (decide (bare (TL.tl w) ≠ []) && decide ((bare (TL.tl w)).length ≤ 60)) && (decide ((bare (TL.tl w)).head? ≠ some 48) && (bare (TL.tl w)).all dig)
def numV (w : Str) : Int := (PySem.intText? w).getD 0
theorem dig_all {l : List Nat} (h : l.all dig = true) : NumText.AllDigits l := fun c hc => by
  have := List.all_eq_true.mp h c hc
  unfold dig at this
  simpa using this
theorem dv_ge : ∀ (l : List Nat) (a : Nat), a ≤ l.foldl (fun acc c => acc * 10 + (c - 48)) a
  | [], _ => Nat.le_refl _
  | c :: r, a => Nat.le_trans (by omega) (dv_ge r (a * 10 + (c - 48)))
theorem dv_lt : ∀ (l : List Nat) (a : Nat), NumText.AllDigits l → l.foldl (fun acc c => acc * 10 + (c - 48)) a < (a + 1) * 10 ^ l.length
  | [], a, _ => by simp
  | c :: r, a, h => by
    have ih := dv_lt r (a * 10 + (c - 48)) h.tail
    have hc := h.head
    rw [List.foldl_cons, List.length_cons, Nat.pow_succ]
    refine Nat.lt_of_lt_of_le ih ?_
    have : a * 10 + (c - 48) + 1 ≤ (a + 1) * 10 := by omega
    calc (a * 10 + (c - 48) + 1) * 10 ^ r.length ≤ ((a + 1) * 10) * 10 ^ r.length := Nat.mul_le_mul_right _ this
      _ = (a + 1) * (10 ^ r.length * 10) := by rw [Nat.mul_assoc, Nat.mul_comm 10]
theorem dv_pos {l : List Nat} (h : NumText.AllDigits l) (ne : l ≠ []) (hd : l.head? ≠ some 48) : 0 < NumText.digitsVal l := by
  cases l with
  | nil => exact absurd rfl ne
  | cons c r =>
    have hc := h.head
    have : c ≠ 48 := fun e => hd (by rw [e]; rfl)
    unfold NumText.digitsVal
    rw [List.foldl_cons]
    exact Nat.lt_of_lt_of_le (show 0 < 0 * 10 + (c - 48) by omega) (dv_ge r _)
theorem dv_small {l : List Nat} (h : NumText.AllDigits l) (z : l.length ≤ 60) : NumText.digitsVal l < 10 ^ 60 := by
  have := dv_lt l 0 h
  rw [Nat.zero_add, Nat.one_mul] at this
  exact Nat.lt_of_lt_of_le this (Nat.pow_le_pow_right (by decide) z)
theorem numB_iff {w : Str} : numB w = true ↔ bare (TL.tl w) ≠ [] ∧ (bare (TL.tl w)).length ≤ 60 ∧ (bare (TL.tl w)).head? ≠ some 48 ∧ (bare (TL.tl w)).all dig = true := by
  unfold numB
  simp only [Bool.and_eq_true, decide_eq_true_eq]
  constructor
  · rintro ⟨⟨a, b⟩, c, d⟩; exact ⟨a, b, c, d⟩
  · rintro ⟨a, b, c, d⟩; exact ⟨⟨a, b⟩, c, d⟩
/-- w writes a number that int takes -/
theorem int_of {w : Str} (ne : bare (TL.tl w) ≠ []) (z : (bare (TL.tl w)).length ≤ 60) (al : (bare (TL.tl w)).all dig = true) :
    ∃ n : Int, PySem.intText? w = some n ∧ n.natAbs = NumText.digitsVal (bare (TL.tl w)) := by
  have hl := TL.len_tl w
  by_cases h : (TL.tl w).head? = some 45
  · have e : bare (TL.tl w) = (TL.tl w).tail := if_pos h
    rw [e] at ne z al ⊢
    obtain ⟨cs, hx⟩ : ∃ cs, TL.tl w = 45 :: cs := by
      generalize TL.tl w = l at h
      cases l with
      | nil => cases h
      | cons c r => exact ⟨r, by rw [List.head?_cons] at h; rw [Option.some.inj h]⟩
    rw [hx] at ne z al hl ⊢
    simp only [List.tail_cons] at ne z al ⊢
    refine ⟨_, intText_neg hx (dig_all al) ne (by rw [List.length_cons] at hl; omega), by omega⟩
  · have e : bare (TL.tl w) = TL.tl w := if_neg h
    rw [e] at ne z al ⊢
    exact ⟨_, intText_digits (x := w) (dig_all al) ne (by omega), by show ((NumText.digitsVal (TL.tl w) : Nat) : Int).natAbs = _; omega⟩
theorem num_int {w : Str} (h : numB w = true) : PySem.intText? w = some (numV w) ∧ numV w ≠ 0 ∧ (numV w).natAbs < 10 ^ 60 ∧ w.length ≤ 61 := by
  obtain ⟨a, b, c, d⟩ := numB_iff.mp h
  obtain ⟨n, e, v⟩ := int_of a b d
  have hv : numV w = n := by unfold numV; rw [e]; rfl
  have p := dv_pos (dig_all d) a c
  have q := dv_small (dig_all d) b
  rw [hv]
  refine ⟨e, by omega, by omega, ?_⟩
  rw [TL.len_tl]
  unfold bare at b
  split at b
  · rw [List.length_tail] at b; omega
  · omega
theorem numL_head {n : Nat} (h : 0 < n) : (TL.numL n).head? ≠ some 48 := by
  induction n using Nat.strongRecOn with
  | _ n ih =>
    by_cases k : n < 10
    · rw [TL.numL_lt k]
      simp only [List.head?_cons]
      intro e
      have := Option.some.inj e
      omega
    · rw [TL.numL_step (by omega)]
      have := ih (n / 10) (by omega) (by omega)
      have ne := TL.numL_ne (n / 10)
      generalize TL.numL (n / 10) = l at this ne
      cases l with
      | nil => exact absurd rfl ne
      | cons c r => exact this
theorem tl_int (v : Int) : TL.tl (Str.ofString (toString v)) = if v < 0 then 45 :: TL.numL v.natAbs else TL.numL v.natAbs := by
  cases v with
  | ofNat n =>
    rw [if_neg (by simp)]
    exact TL.tl_num n
  | negSucc n =>
    rw [if_pos (Int.negSucc_lt_zero n)]
    rw [TL.tl_ofString]
    show ("-" ++ Nat.repr (n + 1)).toList.map Char.toNat = _
    rw [String.toList_append, List.map_append]
    have := TL.tl_num (n + 1)
    rw [TL.tl_ofString] at this
    show _ ++ ((toString (((n + 1 : Nat)) : Int)).toList.map Char.toNat) = _
    rw [this]
    rfl
theorem bare_int (v : Int) : bare (TL.tl (Str.ofString (toString v))) = TL.numL v.natAbs := by
  rw [tl_int]
  unfold bare
  split
  · exact if_pos rfl
  · refine if_neg fun e => ?_
    have d := TL.numL_digits v.natAbs
    generalize TL.numL v.natAbs = l at e d
    cases l with
    | nil => cases e
    | cons c r =>
      have := d.head
      rw [List.head?_cons] at e
      have := Option.some.inj e
      omega
/-- a number's text is read back -/
theorem num_back {v : Int} (nz : v ≠ 0) (hb : v.natAbs < 10 ^ 60) : numB (Str.ofString (toString v)) = true ∧ numV (Str.ofString (toString v)) = v := by
  have hd := TL.numL_digits v.natAbs
  have al : (TL.numL v.natAbs).all dig = true := List.all_eq_true.mpr fun c hc => by
    have := hd c hc
    unfold dig
    simp; omega
  have ne := TL.numL_ne v.natAbs
  have ln := TL.numL_len (n := v.natAbs) (k := 60) (by decide) hb
  refine ⟨numB_iff.mpr ⟨?_, ?_, ?_, ?_⟩, ?_⟩
  · rw [bare_int]; exact ne
  · rw [bare_int]; exact ln
  · rw [bare_int]; exact numL_head (by omega)
  · rw [bare_int]; exact al
  · unfold numV
    have e := tl_int v
    have hl := TL.len_tl (Str.ofString (toString v))
    by_cases h : v < 0
    · rw [if_pos h] at e
      rw [e, List.length_cons] at hl
      rw [intText_neg e hd ne (by omega)]
      show -((NumText.digitsVal (TL.numL v.natAbs) : Nat) : Int) = v
      rw [TL.numL_val]
      omega
    · rw [if_neg h] at e
      rw [e] at hl
      have q := intText_digits (x := Str.ofString (toString v)) (by show NumText.AllDigits (TL.tl _); rw [e]; exact hd) (by show TL.tl _ ≠ []; rw [e]; exact ne) (by omega)
      rw [q]
      show ((NumText.digitsVal (TL.tl (Str.ofString (toString v))) : Nat) : Int) = v
      rw [e, TL.numL_val]
      omega
theorem minus_tl : TL.tl (Str.ofString "-") = [45] := by decide +kernel
theorem zero_tl : TL.tl (Str.ofString "0") = [48] := by decide +kernel
theorem equal_tl : TL.tl (Str.ofString "=") = [61] := by decide +kernel
theorem space_tl : TL.tl (Str.ofString " ") = [32] := by decide +kernel
theorem sub1 {w y : Str} {c : Nat} (e : TL.tl y = [c]) : Builtin.Str.subAt w y 0 = decide ((TL.tl w).head? = some c) := by
  rw [PySem.StrLaws.subAt_eq]
  have e1 : y.cps.toList = [c] := e
  have e2 : y.length = 1 := by rw [TL.len_tl, e]; rfl
  rw [e1, e2, List.drop_zero]
  show ((TL.tl w).take 1 == [c]) = _
  cases TL.tl w with
  | nil => rfl
  | cons d r =>
    rw [List.take_succ_cons, List.take_zero, List.head?_cons, Bool.eq_iff_iff, beq_iff_eq, decide_eq_true_eq]
    exact ⟨fun z => by rw [(List.cons.inj z).1], fun z => by rw [Option.some.inj z]⟩
theorem rempre (w : Str) : TL.tl (Txt.removeprefix w (Str.ofString "-")) = bare (TL.tl w) := by
  unfold Txt.removeprefix bare
  rw [sub1 minus_tl]
  have one : (Str.ofString "-").length = 1 := by rw [TL.len_tl, minus_tl]; rfl
  rw [one]
  by_cases h : (TL.tl w).head? = some 45
  · rw [if_pos h, decide_eq_true h, if_pos rfl]
    have hl := TL.len_tl w
    have pos : 1 ≤ w.length := by
      rw [hl]
      generalize TL.tl w = l at h
      cases l with
      | nil => cases h
      | cons c r => exact Nat.succ_le_succ (Nat.zero_le _)
    show TL.tl (if (w.length - 1 == w.length) = true then w else strSub w 1 w.length) = _
    have n : ¬ (w.length - 1 == w.length) = true := by
      rw [beq_iff_eq]
      omega
    rw [if_neg n, TL.tl_strSub_end, List.drop_one]
  · rw [if_neg h, decide_eq_false h, if_neg (by decide)]
    rfl
theorem starts0 (w : Str) : Txt.startswith w (Str.ofString "0") = decide ((TL.tl w).head? = some 48) := by
  unfold Txt.startswith
  rw [sub1 zero_tl]
  have one : (Str.ofString "0").length = 1 := by rw [TL.len_tl, zero_tl]; rfl
  rw [one, TL.len_tl]
  cases TL.tl w with
  | nil => rfl
  | cons c r => simp
theorem digTab : ∀ c : _root_.Fin 128, Unicode.isDigit c.val = dig c.val := by decide +kernel
theorem dig_is (s : Str) : (Txt.isascii s && Txt.isdigit s) = (decide (TL.tl s ≠ []) && (TL.tl s).all dig) := by
  have e0 : ∀ p : Nat → Bool, s.cps.all p = (TL.tl s).all p := fun p => by rw [TL.tl, Array.all_toList]
  unfold Txt.isascii Txt.isdigit
  rw [e0, e0, TL.len_tl]
  generalize TL.tl s = l
  rw [Bool.eq_iff_iff]
  simp only [Bool.and_eq_true, List.all_eq_true, decide_eq_true_eq, gt_iff_lt, List.length_pos_iff]
  constructor
  · rintro ⟨a, n, d⟩
    exact ⟨n, fun c hc => by rw [← digTab ⟨c, a c hc⟩]; exact d c hc⟩
  · rintro ⟨n, d⟩
    have lt : ∀ c ∈ l, c < 128 := fun c hc => by
      have := d c hc
      unfold dig at this
      simp only [Bool.and_eq_true, decide_eq_true_eq] at this
      omega
    exact ⟨lt, n, fun c hc => by rw [digTab ⟨c, lt c hc⟩]; exact d c hc⟩
/-- what read_number tells -/
def rdV (w : Str) : V := if numB w = true then .int (numV w) else if w = Str.ofString "0" then .int 0 else .non
theorem numB_zero : numB (Str.ofString "0") = false := by decide +kernel
theorem numB_empty : numB Str.empty = false := by decide +kernel
end

section
open PySem.Builtin PySem.Builtin.Str
/-! words of a vector's text -/
def part (w : Str) : Str × Str × Str := Txt.partition w (Str.ofString "=")
def lastI (l : IL) : Str := (l.getLast?.map (·.1)).getD (Str.ofString "")
instance (a b : Str) : Decidable (lt a b) := inferInstanceAs (Decidable (a.cps.toList < b.cps.toList))
def good (last w : Str) : Option (Str × Int) := if okS (part w).1 = true ∧ lt last (part w).1 ∧ numB (part w).2.2 = true then some ((part w).1, numV (part w).2.2) else none
def scan : List Str → Nat → IL → Nat ⊕ IL
  | [], _, l => .inr l
  | w :: r, i, l => match good (lastI l) w with
    | none => .inl i
    | some p => scan r (i + 1) (l ++ [p])
def parts (w : Str) : List Str := Txt.split w (Str.ofString "=")
def wordsOf (t : Str) : List Str := Txt.split t (Str.ofString " ")
def due (t : Str) : Nat ⊕ IL := match wordsOf t with
  | [] => .inr []
  | w :: r => if w = Str.ofString "0" then (if r = [] then .inr [] else .inl 1) else scan (w :: r) 0 []
theorem spl_par (L : List Nat) : ∀ acc, TL.spl [61] 0 acc L = match TL.par [61] acc L with
    | none => [acc ++ L]
    | some (a, b) => a :: TL.spl [61] 0 [] b := by
  induction L with
  | nil =>
    intro acc
    rw [TL.spl_nil]
    show [acc] = [acc ++ []]
    rw [List.append_nil]
  | cons c r ih =>
    intro acc
    cases h : TL.pre [61] (c :: r) with
    | true =>
      rw [TL.spl_hit h, TL.par_hit h]
      rfl
    | false =>
      rw [TL.spl_miss h, TL.par_miss h, ih]
      cases TL.par [61] (acc ++ [c]) r with
      | none => simp
      | some p => rfl
theorem kind1 {y : Str} {c : Nat} (e : TL.tl y = [c]) (h : c < 256) : y.cps.all (· < 256) = true := by
  rw [← Array.all_toList]
  show (TL.tl y).all _ = true
  rw [e]
  simp [h]
theorem parts_tl (w : Str) : (parts w).map TL.tl = TL.spl [61] 0 [] (TL.tl w) := by
  unfold parts
  rw [TL.split_spl w _ (by rw [equal_tl]; simp) (TL.kind_ok (kind1 equal_tl (by decide))), equal_tl]
theorem words_tl (t : Str) : (wordsOf t).map TL.tl = TL.spl [32] 0 [] (TL.tl t) := by
  unfold wordsOf
  rw [TL.split_spl t _ (by rw [space_tl]; simp) (TL.kind_ok (kind1 space_tl (by decide))), space_tl]
theorem spl_len (s : Nat) : ∀ (L acc : List Nat), (TL.spl [s] 0 acc L).length = L.count s + 1
  | [], acc => by rw [TL.spl_nil]; rfl
  | c :: r, acc => by
    cases h : TL.pre [s] (c :: r) with
    | true =>
      have e : c = s := by
        unfold TL.pre at h
        simpa using h
      rw [TL.spl_hit h]
      show (TL.spl [s] 0 [] r).length + 1 = _
      rw [spl_len s r, e, List.count_cons_self]
    | false =>
      have e : c ≠ s := by
        unfold TL.pre at h
        simpa using h
      rw [TL.spl_miss h, spl_len s r, List.count_cons_of_ne (by simpa using e)]
theorem words_len (t : Str) : (wordsOf t).length = (TL.tl t).count 32 + 1 := by
  have := congrArg List.length (words_tl t)
  rw [List.length_map, spl_len] at this
  exact this
theorem parts_len (t : Str) : (parts t).length = (TL.tl t).count 61 + 1 := by
  have := congrArg List.length (parts_tl t)
  rw [List.length_map, spl_len] at this
  exact this
theorem spl_mem {s : Nat} : ∀ (L acc p : List Nat), p ∈ TL.spl [s] 0 acc L → p.length ≤ acc.length + L.length ∧ ∀ d, p.count d ≤ acc.count d + L.count d
  | [], acc, p, h => by
    rw [TL.spl_nil, List.mem_singleton] at h
    subst h
    exact ⟨Nat.le_add_right _ _, fun d => Nat.le_add_right _ _⟩
  | c :: r, acc, p, h => by
    have cl : (c :: r).length = r.length + 1 := List.length_cons
    have cc : ∀ d, r.count d ≤ (c :: r).count d := fun d => List.count_le_count_cons
    cases k : TL.pre [s] (c :: r) with
    | true =>
      rw [TL.spl_hit k] at h
      rcases List.mem_cons.mp h with e | h
      · rw [e]
        exact ⟨by omega, fun d => Nat.le_add_right _ _⟩
      · have z := spl_mem r [] p h
        rw [List.length_nil] at z
        exact ⟨by omega, fun d => by have := z.2 d; have := cc d; rw [List.count_nil] at *; omega⟩
    | false =>
      rw [TL.spl_miss k] at h
      have z := spl_mem r (acc ++ [c]) p h
      rw [List.length_append, List.length_singleton] at z
      refine ⟨by omega, fun d => ?_⟩
      have := z.2 d
      rw [List.count_append] at this
      have e : List.count d (c :: r) = List.count d [c] + List.count d r := by
        rw [← List.singleton_append, List.count_append]
      omega
theorem words_mem {t w : Str} (h : w ∈ wordsOf t) : w.length ≤ t.length := by
  have m : TL.tl w ∈ TL.spl [32] 0 [] (TL.tl t) := by rw [← words_tl]; exact List.mem_map_of_mem h
  have := (spl_mem _ _ _ m).1
  rw [TL.len_tl, TL.len_tl]
  rw [List.length_nil] at this
  omega
theorem parts_mem {t w : Str} (h : w ∈ parts t) : w.length ≤ t.length ∧ ∀ d, (TL.tl w).count d ≤ (TL.tl t).count d := by
  have m : TL.tl w ∈ TL.spl [61] 0 [] (TL.tl t) := by rw [← parts_tl]; exact List.mem_map_of_mem h
  have z := spl_mem _ _ _ m
  rw [TL.len_tl, TL.len_tl]
  rw [List.length_nil] at z
  exact ⟨by omega, fun d => by have := z.2 d; rw [List.count_nil] at this; omega⟩
theorem part_tl (w : Str) : part w = match TL.par [61] [] (TL.tl w) with
    | some (a, b) => (⟨a.toArray⟩, Str.ofString "=", ⟨b.toArray⟩)
    | none => (w, Str.empty, Str.empty) := by
  unfold part
  rw [TL.partition_par w _ (by rw [equal_tl]; simp), equal_tl]
  cases TL.par [61] [] (TL.tl w) with
  | none => rfl
  | some p => rfl
theorem map_two {l : List Str} {a b : List Nat} (h : l.map TL.tl = [a, b]) : l = [⟨a.toArray⟩, ⟨b.toArray⟩] := TL.map_tl_inj (by rw [h]; rfl)
/-- one = in the word -/
theorem part_two {w : Str} (h : (parts w).length = 2) : ∃ a b : Str, parts w = [a, b] ∧ part w = (a, Str.ofString "=", b) := by
  have e := parts_tl w
  rw [spl_par] at e
  rw [part_tl]
  cases q : TL.par [61] [] (TL.tl w) with
  | none =>
    rw [q] at e
    have := congrArg List.length e
    rw [List.length_map, h] at this
    cases this
  | some p =>
    obtain ⟨a, b⟩ := p
    rw [q] at e
    have z := congrArg List.length e
    rw [List.length_map, h] at z
    have z2 : (TL.spl [61] 0 [] b).length = 1 := by
      have : (a :: TL.spl [61] 0 [] b).length = (TL.spl [61] 0 [] b).length + 1 := List.length_cons
      have z3 : 2 = (a :: TL.spl [61] 0 [] b).length := z
      omega
    have b0 : TL.spl [61] 0 [] b = [b] := by
      have y := spl_par b []
      cases q2 : TL.par [61] [] b with
      | none => rw [q2] at y; simpa using y
      | some p2 =>
        obtain ⟨c, d⟩ := p2
        rw [q2] at y
        have y2 : (TL.spl [61] 0 [] b).length = (TL.spl [61] 0 [] d).length + 1 := by rw [y]; exact List.length_cons
        rw [spl_len 61 d] at y2
        omega
    have e2 : (parts w).map TL.tl = [a, b] := by
      have : (parts w).map TL.tl = a :: TL.spl [61] 0 [] b := e
      rw [this, b0]
    exact ⟨_, _, map_two e2, rfl⟩
theorem numB_free {w : Str} (h : 61 ∈ TL.tl w) : numB w = false := by
  cases e : numB w with
  | false => rfl
  | true =>
    obtain ⟨_, _, _, d⟩ := numB_iff.mp e
    have m : 61 ∈ bare (TL.tl w) := by
      unfold bare
      split
      · rename_i hd
        generalize TL.tl w = l at h hd
        cases l with
        | nil => cases h
        | cons c r =>
          rw [List.head?_cons] at hd
          have := Option.some.inj hd
          rcases List.mem_cons.mp h with z | z
          · omega
          · exact z
      · exact h
    have := List.all_eq_true.mp d 61 m
    cases this
/-- none or more than one -/
theorem part_not {w : Str} (h : (parts w).length ≠ 2) : numB (part w).2.2 = false := by
  have e := spl_par (TL.tl w) []
  rw [part_tl]
  cases q : TL.par [61] [] (TL.tl w) with
  | none => exact numB_empty
  | some p =>
    obtain ⟨a, b⟩ := p
    rw [q] at e
    refine numB_free ?_
    show 61 ∈ b
    have y : (TL.spl [61] 0 [] (TL.tl w)).length = (TL.spl [61] 0 [] b).length + 1 := by rw [e]; exact List.length_cons
    rw [spl_len, spl_len] at y
    have l := parts_len w
    exact List.count_pos_iff.mp (show 0 < List.count 61 b by omega)
theorem good_not {last w : Str} (h : (parts w).length ≠ 2) : good last w = none := by
  unfold good
  rw [part_not h]
  exact if_neg fun z => Bool.noConfusion z.2.2
theorem good_two {last w a b : Str} (h : parts w = [a, b]) : good last w = if okS a = true ∧ lt last a ∧ numB b = true then some (a, numV b) else none := by
  obtain ⟨a', b', e1, e2⟩ := part_two (w := w) (by rw [h]; rfl)
  rw [h] at e1
  obtain ⟨ea, e3⟩ := List.cons.inj e1
  obtain ⟨eb, _⟩ := List.cons.inj e3
  unfold good
  rw [e2, ← ea, ← eb]
theorem from_len (x : Str) (n : Nat) : ∀ (cuts : List Nat) (a : Nat), (PySem.StrLaws.partsFrom x n a cuts).length = cuts.length + 1
  | [], _ => rfl
  | c :: r, a => by
    show (PySem.StrLaws.partsFrom x n (c + n) r).length + 1 = _
    rw [from_len x n r, List.length_cons]
theorem count_is (w : Str) : Txt.count w (Str.ofString "=") = ((parts w).length : Int) - 1 := by
  have hy : TL.tl (Str.ofString "=") ≠ [] := by rw [equal_tl]; simp
  obtain ⟨f, g, hn⟩ := PySem.StrLaws.occ_tight w (Str.ofString "=") (TL.len1 hy)
  have key := congrArg List.length (TL.parts_spl hy _ 0 f (Nat.zero_le _) g hn)
  rw [List.length_map, from_len, List.drop_zero, equal_tl, spl_len, ← parts_len] at key
  unfold Txt.count
  omega
/-! what a list of good words is -/
structure Asc (l : IL) : Prop where
  asc : (ks l).Pairwise lt
  nz : ∀ p ∈ l, p.2 ≠ 0
  ok : okL l
  top : ∀ k ∈ ks l, k = lastI l ∨ lt k (lastI l)
  bd : ∀ p ∈ l, p.2.natAbs < 10 ^ 60
theorem asc_nil : Asc [] := ⟨.nil, fun _ h => (nomatch h), fun _ h => (nomatch h), fun _ h => (nomatch h), fun _ h => (nomatch h)⟩
theorem lastI_snoc (l : IL) (p : Str × Int) : lastI (l ++ [p]) = p.1 := by
  unfold lastI
  rw [List.getLast?_concat]
  rfl
theorem ks_snoc (l : IL) (p : Str × Int) : ks (l ++ [p]) = ks l ++ [p.1] := by unfold ks; rw [List.map_append]; rfl
theorem Asc.snoc {l : IL} {w : Str} {p : Str × Int} (h : Asc l) (g : good (lastI l) w = some p) : Asc (l ++ [p]) := by
  unfold good at g
  split at g
  · rename_i z
    obtain ⟨z1, z2, z3⟩ := z
    have e := Option.some.inj g
    subst e
    obtain ⟨_, nz, bd, _⟩ := num_int z3
    have up : ∀ k ∈ ks l, lt k (part w).1 := fun k hk => by
      rcases h.top k hk with q | q
      · rw [q]; exact z2
      · exact lt_tr q z2
    refine ⟨?_, ?_, ?_, ?_, ?_⟩
    · rw [ks_snoc]
      exact List.pairwise_append.mpr ⟨h.asc, List.pairwise_singleton _ _, fun a ha b hb => by rw [List.mem_singleton.mp hb]; exact up a ha⟩
    · intro q hq
      rcases List.mem_append.mp hq with y | y
      · exact h.nz q y
      · rw [List.mem_singleton.mp y]; exact nz
    · intro k hk
      rw [ks_snoc] at hk
      rcases List.mem_append.mp hk with y | y
      · exact h.ok k y
      · rw [List.mem_singleton.mp y]; exact z1
    · intro k hk
      rw [lastI_snoc]
      rw [ks_snoc] at hk
      rcases List.mem_append.mp hk with y | y
      · exact .inr (up k y)
      · exact .inl (List.mem_singleton.mp y)
    · intro q hq
      rcases List.mem_append.mp hq with y | y
      · exact h.bd q y
      · rw [List.mem_singleton.mp y]; exact bd
  · cases g
theorem Asc.fresh {l : IL} {w : Str} {p : Str × Int} (h : Asc l) (g : good (lastI l) w = some p) : p.1 ∉ ks l := fun m => by
  have z := (h.snoc g).asc
  rw [ks_snoc] at z
  exact lt_irr ((List.pairwise_append.mp z).2.2 p.1 m p.1 (List.mem_singleton_self _))
theorem scan_asc : ∀ (ws : List Str) (i : Nat) (l m : IL), Asc l → scan ws i l = .inr m → Asc m ∧ m.length ≤ l.length + ws.length
  | [], _, l, m, h, e => by
    have : l = m := Sum.inr.inj e
    subst this
    exact ⟨h, Nat.le_refl _⟩
  | w :: r, i, l, m, h, e => by
    unfold scan at e
    split at e
    · cases e
    · rename_i p g
      have z := scan_asc r (i + 1) (l ++ [p]) m (h.snoc g) e
      rw [List.length_append, List.length_singleton] at z
      rw [List.length_cons]
      exact ⟨z.1, by omega⟩
theorem scan_lt : ∀ (ws : List Str) (i : Nat) (l : IL) (j : Nat), scan ws i l = .inl j → j < i + ws.length
  | [], _, l, j, e => by cases e
  | w :: r, i, l, j, e => by
    unfold scan at e
    rw [List.length_cons]
    split at e
    · have := Sum.inl.inj e
      omega
    · have := scan_lt r (i + 1) _ j e
      omega
theorem par_len : ∀ (L acc a b : List Nat), TL.par [61] acc L = some (a, b) → a.length ≤ acc.length + L.length ∧ b.length ≤ L.length
  | [], acc, a, b, h => by cases h
  | c :: r, acc, a, b, h => by
    have cl : (c :: r).length = r.length + 1 := List.length_cons
    cases k : TL.pre [61] (c :: r) with
    | true =>
      rw [TL.par_hit k] at h
      have e := Option.some.inj h
      have e1 := congrArg Prod.fst e
      have e2 := congrArg Prod.snd e
      simp only at e1 e2
      subst e1 e2
      refine ⟨by omega, ?_⟩
      rw [List.length_drop]
      omega
    | false =>
      rw [TL.par_miss k] at h
      have z := par_len r _ a b h
      rw [List.length_append, List.length_singleton] at z
      exact ⟨by omega, by omega⟩
theorem part_len (w : Str) : (part w).1.length ≤ w.length ∧ (part w).2.2.length ≤ w.length := by
  rw [part_tl]
  cases q : TL.par [61] [] (TL.tl w) with
  | none => exact ⟨Nat.le_refl _, Nat.zero_le _⟩
  | some p =>
    obtain ⟨a, b⟩ := p
    have z := par_len _ _ _ _ q
    rw [List.length_nil] at z
    rw [TL.len_tl w]
    refine ⟨?_, ?_⟩
    · show a.toArray.size ≤ _
      rw [List.size_toArray]; omega
    · show b.toArray.size ≤ _
      rw [List.size_toArray]; omega
theorem Asc.can {l : IL} (h : Asc l) : Can l := ⟨h.asc, h.nz⟩
end

/-! errors, lines, numbers, the reading of a vector -/
def fsT (i j : Int) : List (Str × L2.V) := [("word", .int j), ("line", .int i)]
def fsL (d : Addr) : List (Str × L2.V) := [("index", .int 0), ("words", .ref d)]
structure LA (C : Addr) (H : Hp) (a : Addr) (ws : List Str) : Prop where
  ex : ∃ d dx, H a = some (.ins C dx (fsL d)) ∧ H d = some (.lst (ws.map V.str))
theorem LA.same {C : Addr} {H H' : Hp} {a : Addr} {ws : List Str} (v : LA C H a ws) (s : Same H H') : LA C H' a ws := by
  obtain ⟨d, dx, h1, h2⟩ := v
  exact ⟨d, dx, s _ _ h1, s _ _ h2⟩
/-- v is no text -/
def NotS (K : PySem.W.Frag) (H : Hp) (v : L2.V) : Prop := ∃ t, TyX K H v t ∧ PySem.W.kitOne K t (.type "str") = some false
def spTI (C : Addr) : Sp := fun vs H Q _ => ∃ x i j, vs = [.ref x, .int i, .int j] ∧ H x = some (exo x C none) ∧
  ∀ d, H d = none → d ≠ x → Q .non (upd (upd (upd H d (exd d [("line", .int i)])) x (exo x C (some d))) d (exd d (fsT i j)))
def spLinit (C : Addr) : Sp := fun vs H Q _ => ∃ x dx t, vs = [.ref x, .int 0, .str t] ∧ H x = some (.ins C dx []) ∧ t.length ≤ 100000 ∧
  ∀ d H', H d = none → Oth x H H' → H' x = some (.ins C dx (fsL d)) → H' d = some (.lst ((wordsOf t).map V.str)) → Q .non H'
def spLineOf (K : PySem.W.Frag) (CL CT : Addr) : Sp := fun vs H Q E => ∃ v, vs = [v] ∧
  ((∃ t, v = .str t ∧ t.length ≤ 100000 ∧ ∀ a H', H a = none → Same H H' → LA CL H' a (wordsOf t) → Q (.ref a) H') ∨
   (NotS K H v ∧ ∀ d H', H d = none → Same H H' → H' d = some (.xd (fsT 0 0)) → E (.ref CT) (some d) H'))
def spWordAt (CL : Addr) : Sp := fun vs H Q _ => ∃ a ws w, vs = [.ref a, .int 0] ∧ LA CL H a ws ∧ ws[0]? = some w ∧ Q (.str w) H
def spEndAt (CL CT : Addr) : Sp := fun vs H Q E => ∃ a ws, vs = [.ref a, .int 1] ∧ LA CL H a ws ∧ (ws.length ≤ 1 → Q .non H) ∧
  (1 < ws.length → ∀ d H', H d = none → Same H H' → H' d = some (.xd (fsT 0 1)) → E (.ref CT) (some d) H')
def spRN : Sp := fun vs H Q _ => ∃ w, vs = [.str w, .int 60] ∧ w.length ≤ 100000 ∧ Q (rdV w) H
def Gives (CT : Addr) (r : Nat ⊕ IL) (H : Hp) (Q : VK) (E : XK) : Prop :=
  (∀ l d H', r = .inr l → H d = none → Same H H' → H' d = some (.dK (DI l)) → Q (.ref d) H') ∧ ∀ i d H', r = .inl i → H d = none → Same H H' → H' d = some (.xd (fsT 0 (i : Nat))) → E (.ref CT) (some d) H'
def spRNs (CL CT : Addr) : Sp := fun vs H Q E => ∃ a ws, vs = [.ref a, .int 0, .int 60] ∧ LA CL H a ws ∧ ws.length ≤ 60 ∧ (∀ w ∈ ws, w.length ≤ 100000) ∧ Gives CT (scan ws 0 []) H Q E
def dueW (ws : List Str) : Nat ⊕ IL := match ws with
  | [] => .inr []
  | w :: r => if w = Str.ofString "0" then (if r = [] then .inr [] else .inl 1) else scan (w :: r) 0 []
theorem due_is (t : Str) : due t = dueW (wordsOf t) := rfl
def spRV (CL CT : Addr) : Sp := fun vs H Q E => ∃ a ws, vs = [.ref a, .int 0] ∧ LA CL H a ws ∧ ws ≠ [] ∧ ws.length ≤ 60 ∧ (∀ w ∈ ws, w.length ≤ 100000) ∧ Gives CT (dueW ws) H Q E
def spRead (K : PySem.W.Frag) (C CT : Addr) : Sp := fun vs H Q E => ∃ v, vs = [.ref C, v] ∧
  ((∃ t, v = .str t ∧ t.length ≤ 100000 ∧ (wordsOf t).length ≤ 60 ∧ (∀ l a H', due t = .inr l → Asc l → l.length ≤ 60 → H a = none → Same H H' → VA C H' a l → Q (.ref a) H') ∧
      ∀ i d H', due t = .inl i → H d = none → Same H H' → H' d = some (.xd (fsT 0 (i : Nat))) → E (.ref CT) (some d) H') ∨
   (NotS K H v ∧ ∀ d H', H d = none → Same H H' → H' d = some (.xd (fsT 0 0)) → E (.ref CT) (some d) H'))
theorem g_ost {K : PySem.W.Frag} {f : Str} {to te : TE} {D : Ends} {σ : L2.St} {H : Hp} (h : te σ H fun y H1 => to σ H1 fun x H2 => ∃ a C : Addr, x = .ref a ∧ OexC K C ∧ PySem.W.findIn K (.ref C) f = some none ∧
  ((H2 a = some (exo a C none) ∧ ∀ dx, H2 dx = none → dx ≠ a → D.nx σ (upd (upd H2 dx (exd dx [(f, y)])) a (exo a C (some dx)))) ∨
    ∃ (dx : Addr) (fs : List (Str × L2.V)), H2 a = some (exo a C (some dx)) ∧ H2 dx = some (exd dx fs) ∧ fs.length ≤ 900 ∧ D.nx σ (upd H2 dx (exd dx ((f, y) :: fs))))) : tOst K f to te D σ H := h
theorem g_mkO {C : Addr} {sp : Sp} {dvs : List L2.V} {ta : TA} {σ : L2.St} {H : Hp} {Q : XK} (h : ta σ H fun vs H1 => vs.length ≤ 1000 ∧ ∀ a, H1 a = none → sp (.ref a :: (vs ++ dvs)) (upd H1 a (exo a C none))
  (fun v H2 => v = .non ∧ ∃ (d : Addr) (fs : List (Str × L2.V)), H2 a = some (exo a C (some d)) ∧ H2 d = some (exd d fs) ∧ H1 d = none ∧ Q (.ref C) (some d) (upd (del H2 a) d (.xd fs))) (fun _ _ _ => False)) : tMkO C sp dvs ta σ H Q := h
theorem raise_T {C : Addr} {H1 : Hp} {i j : Int} {Q : XK} (h : ∀ d H', H1 d = none → Same H1 H' → H' d = some (.xd (fsT i j)) → Q (.ref C) (some d) H') :
    [V.int i, V.int j].length ≤ 1000 ∧ ∀ a, H1 a = none → spTI C (.ref a :: ([V.int i, V.int j] ++ [])) (upd H1 a (exo a C none))
  (fun v H2 => v = .non ∧ ∃ (d : Addr) (fs : List (Str × L2.V)), H2 a = some (exo a C (some d)) ∧ H2 d = some (exd d fs) ∧ H1 d = none ∧ Q (.ref C) (some d) (upd (del H2 a) d (.xd fs))) (fun _ _ _ => False) := by
  refine ⟨show 2 ≤ 1000 by decide, fun a ha => ⟨a, i, j, rfl, upd_same, fun d hd nd => ?_⟩⟩
  have hd1 : H1 d = none := by rw [upd_ne nd] at hd; exact hd
  refine ⟨rfl, d, fsT i j, ?_, upd_same, hd1, h d _ hd1 (fun b o e => ?_) upd_same⟩
  · rw [upd_ne nd.symm]; exact upd_same
  · have n1 : b ≠ d := ne_of_none e hd1
    have n2 : b ≠ a := ne_of_none e ha
    rw [upd_ne n1, del_ne n2, upd_ne n1, upd_ne n2, upd_ne n1, upd_ne n2]
    exact e
theorem g_make {C : Addr} {sp : Sp} {dvs : List L2.V} {E : XK} {t : TA} {σ : L2.St} {H : Hp} {Q : VK} (h : t σ H fun vs H1 => ∀ x dx, H1 x = none → H1 dx = none → dx ≠ x →
  sp (.ref x :: (vs ++ dvs)) (upd (upd H1 dx (.own x)) x (.ins C dx [])) (fun v H2 => v = .non ∧ Q (.ref x) H2) E) : tMake C sp dvs E t σ H Q := h
theorem g_meth {C : Addr} {m : Str} {sp : Sp} {dvs : List L2.V} {E : XK} {ta : TE} {t : TA} {σ : L2.St} {H : Hp} {Q : VK} (h : ta σ H fun x H1 => ∃ a dx fs, x = .ref a ∧ H1 a = some (.ins C dx fs) ∧ fs.lookup m = none ∧ t σ H1 fun vs H2 => sp (x :: (vs ++ dvs)) H2 Q E) : tMeth C m sp dvs E ta t σ H Q := h
theorem g_bm {K : PySem.W.Frag} {T : String} {r : L2.V → List L2.V → Hp → VK → Prop} {to : TE} {t : TA} {σ : L2.St} {H : Hp} {Q : VK} (h : to σ H fun x H1 => tyV K T x H1 ∧ t σ H1 fun xs H2 => r x xs H2 Q) : tBM K T r to t σ H Q := h
theorem len1S : ((Str.ofString " ").length == 0) = false := by decide +kernel
theorem len1E : ((Str.ofString "=").length == 0) = false := by decide +kernel
section
variable {P : Program} {w : World} {K : PySem.W.Frag} {mg : Str → Option Value} {base : Heap}
theorem ok_tinit (V : VF K mg) : FnOk P w K mg base CX0 1 V.fTI V.dTI ["self", "line", "word"] (spTI V.CT) := by
  refine V.F_tinit.ok sc_InvalidText___init__ (fun vs H Q E h => ?_) (fun cdv A outer s H vs Q E hr h => ?_)
  · obtain ⟨x, i, j, rfl, _⟩ := h
    rfl
  · obtain ⟨x, i, j, rfl, hx, k⟩ := h
    refine ⟨_, (pss_cons (ps_ost (pv 0) (pv 1))
      (pss_one (ps_ost (pv 0) (pv 2)))), ?_⟩
    try dsimp only [cxOf]
    refine g_seq ?_
    refine g_ost ?_
    walk_at "hx"
    refine ⟨x, V.CT, rfl, V.o_T, V.n_line, .inl ⟨hx, fun d hd nd => ?_⟩⟩
    walk_at "hx"
    refine g_ost ?_
    walk_at "hx"
    refine ⟨x, V.CT, rfl, V.o_T, V.n_word, .inr ⟨d, [("line", .int i)], upd_same, ?_, (show 1 ≤ 900 by decide), ?_⟩⟩
    · rw [upd_ne nd]; exact upd_same
    · walk_at "hx"
      exact k d hd nd
theorem ok_linit (V : VF K mg) : FnOk P w K mg base CX0 1 V.fNI V.dNI ["self", "index", "text"] (spLinit V.CL) := by
  refine V.F_linit.ok sc_Line___init__ (fun vs H Q E h => ?_) (fun cdv A outer s H vs Q E hr h => ?_)
  · obtain ⟨x, dx, t, rfl, _⟩ := h
    rfl
  · obtain ⟨x, dx, t, rfl, hx, ht, k⟩ := h
    refine ⟨_, (pss_cons (ps_fld (pv 0) (pv 1) rfl)
      (pss_one (ps_fld (pv 0) (pe_bm PySem.F.plainAttrs_str PySem.F.slot_str_split PySem.F.type_str_split mt_split (pv 2) (pa_cons pe_str pa_nil)) rfl))), ?_⟩
    try dsimp only [cxOf]
    refine g_seq ?_
    refine g_setf ?_
    walk_at "hx"
    refine ⟨x, V.CL, dx, [], rfl, hx, V.c_L, V.n_index, by decide, ?_⟩
    walk_at "hx"
    refine g_setf ?_
    refine g_bm ?_
    walk_at "hx"
    refine ⟨t, _, rfl, rfl, len1S, Nat.le_trans (show t.length + 2 ≤ 200000 by omega) (by decide), ?_⟩
    intro d hd
    walk_at "hx"
    have ndx : d ≠ x := fun e => by rw [e, upd_same] at hd; cases hd
    have hd1 : H d = none := by rw [upd_ne ndx] at hd; exact hd
    refine ⟨x, V.CL, dx, [("index", .int 0)], rfl, ?_, V.c_L, V.n_words, (show 1 < 1000 by decide), ?_⟩
    · rw [upd_ne ndx.symm]; exact upd_same
    · walk_at "hx"
      refine k d _ hd1 (fun a o n e => ?_) upd_same ?_
      · rw [upd_ne n, upd_ne (ne_of_none e hd1), upd_ne n]
        exact e
      · rw [upd_ne ndx]; exact upd_same
theorem ok_word_at (V : VF K mg) : FnOk P w K mg base CX0 1 V.fWA V.dWA ["self", "at"] (spWordAt V.CL) := by
  refine V.F_wordat.ok sc_Line_word_at (fun vs H Q E h => ?_) (fun cdv A outer s H vs Q E hr h => ?_)
  · obtain ⟨a, ws, w', rfl, _⟩ := h
    rfl
  · obtain ⟨a, ws, w', rfl, ⟨d, dx, h1, h2⟩, h0, k⟩ := h
    have T := V.t
    refine ⟨_, (pss_cons (ps_if (pt_cmpR op_ge (pv 1) (pe_callB call_lenL (by rfl) T.len (by decide +kernel) (pa_cons (L2.pe_fld (pv 0) (by rfl)) pa_nil)) (nomark _)) (pss_one ps_never) pss_nil)
      (pss_one (ps_ret (pe_ix ix_list (L2.pe_fld (pv 0) (by rfl)) (pv 1) (fun _ _ => rfl))))), ?_⟩
    try dsimp only [cxOf]
    walk_at "hgo"
    refine g_at ?_
    walk_at "hgo"
    refine ⟨a, V.CL, dx, _, .ref d, rfl, h1, V.c_L, V.n_words, rfl, ?_⟩
    walk_at "hgo"
    have ps : 0 < ws.length := by
      obtain ⟨q, _⟩ := List.getElem?_eq_some_iff.mp h0
      exact q
    refine g_false (by rw [List.length_map]; exact decide_eq_false (by omega)) ?_
    walk_at "hgo"
    refine g_at ?_
    walk_at "hgo"
    refine ⟨a, V.CL, dx, _, .ref d, rfl, h1, V.c_L, V.n_words, rfl, ?_⟩
    walk_at "hgo"
    refine g_ixL (i := ((0 : Nat) : Int)) (SqL.of h2) (atI_nat (by rw [List.getElem?_map, h0]; rfl)) ?_
    walk_at "hgo"
    exact k
theorem ok_end_at (V : VF K mg) : FnOk P w K mg base (L2.CX P w) 3 V.fEA V.dEA ["self", "at"] (spEndAt V.CL V.CT) := by
  have G_tinit := ok_tinit (P := P) (w := w) (base := base) V
  refine V.F_endat.okX sc_Line_end_at (fun vs H Q E h => ?_) (fun cdv A outer s H vs Q E hr h => ?_)
  · obtain ⟨a, ws, rfl, _⟩ := h
    rfl
  · obtain ⟨a, ws, rfl, ⟨d, dx, h1, h2⟩, k1, k2⟩ := h
    have T := V.t
    refine ⟨_, (pss_one (ps_if (pt_cmpR op_gt (pe_callB call_lenL (by rfl) T.len (by decide +kernel) (pa_cons (L2.pe_fld (pv 0) (by rfl)) pa_nil)) (pv 1) (nomark _)) (pss_one (ps_raise rfl (takes_of rfl rfl rfl rfl) (pmk_oex V.o_T V.i_T V.t_T G_tinit (hr.mono (by decide)) V.b_tinit .nil pass0 (by rfl) V.g_InvalidText (by exact (pa_cons (L2.pe_fld (pv 0) (by rfl)) (pa_cons (pv 1) pa_nil)))))) pss_nil)), ?_⟩
    try dsimp only [cxOf]
    walk_at "hgo"
    refine g_at ?_
    walk_at "hgo"
    refine ⟨a, V.CL, dx, _, .ref d, rfl, h1, V.c_L, V.n_words, rfl, ?_⟩
    walk_at "hgo"
    by_cases c : 1 < ws.length
    · refine g_true (by rw [List.length_map]; simp; omega) ?_
      refine g_mkO ?_
      walk_at "hgo"
      refine g_at ?_
      walk_at "hgo"
      refine ⟨a, V.CL, dx, _, .int 0, rfl, h1, V.c_L, V.n_index, rfl, ?_⟩
      walk_at "hgo"
      exact raise_T (k2 c)
    · refine g_false (by rw [List.length_map]; simp; omega) ?_
      walk_at "hgo"
      exact k1 (by omega)
theorem ok_line_of (V : VF K mg) : FnOk P w K mg base (L2.CX P w) 3 V.fLO V.dLO ["text"] (spLineOf K V.CL V.CT) := by
  have G_tinit := ok_tinit (P := P) (w := w) (base := base) V
  have G_linit := ok_linit (P := P) (w := w) (base := base) V
  refine V.F_line_of.okX sc_line_of (fun vs H Q E h => ?_) (fun cdv A outer s H vs Q E hr h => ?_)
  · obtain ⟨v, rfl, _⟩ := h
    rfl
  · obtain ⟨v, rfl, h⟩ := h
    have T := V.t
    refine ⟨_, (pss_cons (ps_if (pt_not (pt_val (pe_callB call_isi (by rfl) T.isinstance (by decide +kernel) (pa_cons (pv 0) (pa_cons (pe_bltn (v := .ty "str") (u := .type "str") (by rfl) T.str (by decide +kernel) rfl) pa_nil))))) (pss_one (ps_raise rfl (takes_of rfl rfl rfl rfl) (pmk_oex V.o_T V.i_T V.t_T G_tinit (hr.mono (by decide)) V.b_tinit .nil pass0 (by rfl) V.g_InvalidText (by exact (pa_cons pe_int (pa_cons pe_int pa_nil)))))) pss_nil)
      (pss_one (ps_ret (pe_make V.mk_L G_linit (hr.mono (by decide)) rfl V.g_Line V.b_linit .nil pass0 (pa_cons pe_int (pa_cons (pv 0) pa_nil)))))), ?_⟩
    try dsimp only [cxOf]
    walk_at "hgo"
    rcases h with ⟨t, rfl, ht, k⟩ | ⟨⟨ty, ty1, ty2⟩, k⟩
    · refine g_isi (n := "str") (.base (.str t)) (b := true) (by decide +kernel) ?_
      walk_at "hgo"
      refine g_make ?_
      walk_at "hgo"
      intro x dx hx hdx ndx
      refine ⟨x, dx, t, rfl, upd_same, ht, fun d H' hd ot e1 e2 => ⟨rfl, ?_⟩⟩
      have ndx2 : d ≠ x := fun z => by rw [z, upd_same] at hd; cases hd
      refine k x H' hx (fun b o e => ot b o (ne_of_none e hx) ?_) ⟨d, dx, e1, e2⟩
      rw [upd_ne (ne_of_none e hx), upd_ne (ne_of_none e hdx)]
      exact e
    · refine ⟨v, .ty "str", ty, .type "str", false, rfl, .ty "str", ty1, ty2, ?_⟩
      walk_at "hgo"
      refine g_mkO ?_
      walk_at "hgo"
      exact raise_T k
theorem ok_read_number (V : VF K mg) : FnOk P w K mg base CX0 1 V.fRN V.dRN ["word", "most"] spRN := by
  refine V.F_read_number.ok sc_read_number (fun vs H Q E h => ?_) (fun cdv A outer s H vs Q E hr h => ?_)
  · obtain ⟨w', rfl, _⟩ := h
    rfl
  · obtain ⟨x, rfl, hw, k⟩ := h
    have T := V.t
    refine ⟨_, (pss_cons (ps_set (i := 2) sc_read_number.nd rfl (Or.inl rfl) (pe_bm PySem.F.plainAttrs_str PySem.F.slot_str_removeprefix PySem.F.type_str_removeprefix mt_removeprefix (pv 0) (pa_cons pe_str pa_nil)))
      (pss_cons (ps_if (PW.pt (pw_or (pt_not (PW.pt (pw_and (pt_val (pe_bm0 PySem.F.plainAttrs_str PySem.F.slot_str_isascii PySem.F.type_str_isascii mt_isasciiB (pv 2))) (pw_and1 (pt_val (pe_bm0 PySem.F.plainAttrs_str PySem.F.slot_str_isdigit PySem.F.type_str_isdigit mt_isdigit (pv 2))))))) (pw_or1 (pt_cmpR op_gt (pe_callB call_lenS (by rfl) T.len (by decide +kernel) (pa_cons (pv 2) pa_nil)) (pv 1) (nomark _))))) (pss_one (ps_ret pe_non)) pss_nil)
      (pss_cons (ps_if (PW.pt (pw_and (pt_val (pe_bm PySem.F.plainAttrs_str PySem.F.slot_str_startswith PySem.F.type_str_startswith mt_startswith (pv 2) (pa_cons pe_str pa_nil))) (pw_and1 (pt_cmpR op_ne (pv 0) pe_str (nomark _))))) (pss_one (ps_ret pe_non)) pss_nil)
      (pss_one (ps_ret (pe_callTy call_int_str (by rfl) T.int (by decide +kernel) (pa_cons (pv 0) pa_nil))))))), ?_⟩
    try dsimp only [cxOf]
    refine g_seq ?_
    walk_at "hx"
    refine g_bm ?_
    walk_at "hx"
    have hw2 : x.length ≤ sizeLine := small_of (by omega)
    refine ⟨x, _, rfl, rfl, hw2, ?_⟩
    walk_at "hgo"
    have tlD := rempre x
    have isD := dig_is (Txt.removeprefix x (Str.ofString "-"))
    have lnD : (Txt.removeprefix x (Str.ofString "-")).length = (bare (TL.tl x)).length := by rw [TL.len_tl, tlD]
    have lnD2 : (bare (TL.tl x)).length ≤ x.length := by
      rw [TL.len_tl]
      unfold bare
      split
      · rw [List.length_tail]; omega
      · exact Nat.le_refl _
    have st := starts0 (Txt.removeprefix x (Str.ofString "-"))
    rw [tlD] at isD st
    generalize Txt.removeprefix x (Str.ofString "-") = D at tlD isD lnD st ⊢
    have nonV : (decide (bare (TL.tl x) ≠ []) && (bare (TL.tl x)).all dig) = false ∨ 60 < (bare (TL.tl x)).length → rdV x = .non := fun z => by
      have n1 : numB x = false := by
        cases e : numB x with
        | false => rfl
        | true =>
          obtain ⟨q1, q2, _, q4⟩ := numB_iff.mp e
          rcases z with z | z
          · rw [decide_eq_true q1, q4] at z; cases z
          · omega
      have n2 : x ≠ Str.ofString "0" := fun e => by
        rcases z with z | z
        · rw [e] at z; revert z; decide +kernel
        · rw [e] at z; revert z; decide +kernel
      unfold rdV
      rw [n1, if_neg (by decide), if_neg n2]
    cases e1 : Txt.isascii D with
    | false =>
      rw [e1] at isD
      refine iteF ?_
      walk_at "hgo"
      rw [nonV (.inl isD.symm)] at k
      exact k
    | true =>
      rw [e1] at isD
      refine iteT ?_
      walk_at "hgo"
      refine ⟨rfl, trivial, ?_⟩
      walk_at "hgo"
      cases e2 : Txt.isdigit D with
      | false =>
        rw [e2] at isD
        walk_at "hgo"
        rw [nonV (.inl isD.symm)] at k
        exact k
      | true =>
        rw [e2] at isD
        walk_at "hgo"
        refine g_lenS (small_of (by omega)) ?_
        walk_at "hgo"
        by_cases c : 60 < (bare (TL.tl x)).length
        · refine g_true (by rw [lnD]; exact decide_eq_true (by omega)) ?_
          walk_at "hgo"
          rw [nonV (.inr c)] at k
          exact k
        · refine g_false (by rw [lnD]; exact decide_eq_false (by omega)) ?_
          walk_at "hgo"
          refine g_bm ?_
          walk_at "hgo"
          refine ⟨D, _, rfl, rfl, ?_⟩
          walk_at "hgo"
          have al : decide (bare (TL.tl x) ≠ []) = true ∧ (bare (TL.tl x)).all dig = true := by
            have z : (decide (bare (TL.tl x) ≠ []) && (bare (TL.tl x)).all dig) = true := isD.symm
            exact Bool.and_eq_true_iff.mp z
          by_cases h48 : (bare (TL.tl x)).head? = some 48
          · have nB : numB x = false := by
              cases e : numB x with
              | false => rfl
              | true => exact absurd h48 (numB_iff.mp e).2.2.1
            refine g_true (by rw [st]; exact decide_eq_true h48) ?_
            walk_at "hgo"
            by_cases z : x = Str.ofString "0"
            · refine g_false (by simp [z]) ?_
              walk_at "hgo"
              refine ⟨x, 0, rfl, by rw [z]; decide +kernel, by rw [z]; decide +kernel, ?_⟩
              unfold rdV at k
              rw [nB, if_neg (by decide), if_pos z] at k
              exact k
            · refine g_true (by simp [z]) ?_
              walk_at "hgo"
              unfold rdV at k
              rw [nB, if_neg (by decide), if_neg z] at k
              exact k
          · have nB : numB x = true := numB_iff.mpr ⟨of_decide_eq_true al.1, by omega, h48, al.2⟩
            refine g_false (by rw [st]; exact decide_eq_false h48) ?_
            walk_at "hgo"
            obtain ⟨e, _, _, lx⟩ := num_int nB
            refine ⟨x, numV x, rfl, e, by omega, ?_⟩
            unfold rdV at k
            rw [nB, if_pos rfl] at k
            exact k
end

theorem g_rng2 {ta : TA} {σ : L2.St} {H : Hp} {R : It → Hp → Prop} (h : ta σ H fun vs H1 => ∃ i j : Int, vs = [.int i, .int j] ∧ (-(2 ^ 62) ≤ i ∧ i < 2 ^ 62 ∧ -(2 ^ 62) ≤ j ∧ j < 2 ^ 62) ∧ R (Itr i (j - i).toNat) H1) : iRng2 ta σ H R := h
theorem fsL_no {d : Addr} {n : Str} (h1 : (n == ("index" : Str)) = false) (h2 : (n == ("words" : Str)) = false) : (fsL d).lookup n = none := by
  unfold fsL
  rw [List.lookup_cons, h1, List.lookup_cons, h2]
  rfl
def lastV (l : IL) : L2.V := .str (lastI l)
theorem scan_next {ws : List Str} {i : Nat} {l : IL} {w : Str} {p : Str × Int} (hw : ws[i]? = some w) (e : scan ws 0 [] = scan (ws.drop i) i l) (g : good (lastI l) w = some p) : scan ws 0 [] = scan (ws.drop (i + 1)) (i + 1) (l ++ [p]) := by
  obtain ⟨hi, rfl⟩ := List.getElem?_eq_some_iff.mp hw
  rw [e, List.drop_eq_getElem_cons hi]
  show (match good (lastI l) ws[i] with
    | none => Sum.inl i
    | some p => scan (ws.drop (i + 1)) (i + 1) (l ++ [p])) = _
  rw [g]
theorem scan_stop {ws : List Str} {i : Nat} {l : IL} {w : Str} (hw : ws[i]? = some w) (e : scan ws 0 [] = scan (ws.drop i) i l) (g : good (lastI l) w = none) : scan ws 0 [] = .inl i := by
  obtain ⟨hi, rfl⟩ := List.getElem?_eq_some_iff.mp hw
  rw [e, List.drop_eq_getElem_cons hi]
  show (match good (lastI l) ws[i] with
    | none => Sum.inl i
    | some p => scan (ws.drop (i + 1)) (i + 1) (l ++ [p])) = _
  rw [g]
theorem scan_done {ws : List Str} {l : IL} (e : scan ws 0 [] = scan (ws.drop ws.length) ws.length l) : scan ws 0 [] = .inr l := by
  rw [e, List.drop_length]
  rfl
theorem good_yes {last w : Str} (h1 : okS (part w).1 = true) (h2 : lt last (part w).1) (h3 : numB (part w).2.2 = true) : good last w = some ((part w).1, numV (part w).2.2) := by
  unfold good
  rw [if_pos ⟨h1, h2, h3⟩]
theorem good_no {last w : Str} (h : ¬ (okS (part w).1 = true ∧ lt last (part w).1 ∧ numB (part w).2.2 = true)) : good last w = none := by
  unfold good
  rw [if_neg h]
/-- the state of the loop -/
structure Rd1 (ws : List Str) (H : Hp) (d : Addr) (i : Nat) (l : IL) (H' : Hp) : Prop where
  asc : Asc l
  len : l.length = i
  sc : scan ws 0 [] = scan (ws.drop i) i l
  at_ : H' d = some (.dK (DI l))
  same : Same H H'
section
variable {P : Program} {w : World} {K : PySem.W.Frag} {mg : Str → Option Value} {base : Heap}
set_option maxHeartbeats 8000000 in
theorem ok_read_numbers (V : VF K mg) : FnOk P w K mg base (L2.CX P w) 3 V.fRS V.dRS ["line", "start", "most"] (spRNs V.CL V.CT) := by
  have G_tinit := ok_tinit (P := P) (w := w) (base := base) V
  have G_read_number := ok_read_number (P := P) (w := w) (base := base) V
  have G_is_name := k_is_name (P := P) (w := w) (base := base) V
  refine V.F_read_numbers.okX sc_read_numbers (fun vs H Q E h => ?_) (fun cdv A outer s H vs Q E hr h => ?_)
  · obtain ⟨a, ws, rfl, _⟩ := h
    rfl
  · obtain ⟨a, ws, rfl, ⟨dw, dx, h1, h2⟩, few, sm, k1, k2⟩ := h
    have hu := hu_of hr
    have T := V.t
    refine ⟨_, (pss_cons (ps_set (i := 3) sc_read_numbers.nd rfl (Or.inl rfl) pe_dnewK)
      (pss_cons (ps_set (i := 4) sc_read_numbers.nd rfl (Or.inl rfl) pe_str)
      (pss_cons (ps_for (passes_of rfl) rfl (pi_range2 rfl T.range (pa_cons (pv 1) (pa_cons (pe_callB call_lenL (by rfl) T.len (by decide +kernel) (pa_cons (L2.pe_fld (pv 0) (by rfl)) pa_nil)) pa_nil))) (pg_name (i := 5) sc_read_numbers.nd rfl (Or.inl rfl)) (pss_cons (ps_asg (pe_bm PySem.F.plainAttrs_str PySem.F.slot_str_partition PySem.F.type_str_partition mt_partition (pe_ix ix_list (L2.pe_fld (pv 0) (by rfl)) (pv 5) (fun _ _ => rfl)) (pa_cons pe_str pa_nil)) (pg_tup rfl (pgs_cons (pg_name (i := 6) sc_read_numbers.nd rfl (Or.inl rfl)) (pgs_cons (pg_name (i := 7) sc_read_numbers.nd rfl (Or.inl rfl)) (pgs_cons (pg_name (i := 8) sc_read_numbers.nd rfl (Or.inl rfl)) pgs_nil)))))
      (pss_cons (ps_set (i := 9) sc_read_numbers.nd rfl (Or.inl rfl) (pe_call G_read_number (hr.mono (by decide)) (by rfl) V.g_read_number V.F_read_number.kp V.b_read_number .nil pass0 (pa_cons (pv 8) (pa_cons (pv 2) pa_nil))))
      (pss_cons (ps_if (PW.pt (pw_or (pt_not (pt_val (pe_call G_is_name (hr.mono (by decide)) (by rfl) V.g_is_name V.F_is_name.kp V.b_is_name .nil pass0 (pa_cons (pv 6) pa_nil)))) (pw_or (pt_cmpR op_le_str (pv 6) (pv 4) (nomark _)) (pw_or (pt_cmpR op_isN (pv 9) pe_non (nomark _)) (pw_or1 (pt_cmpR op_eq (pv 9) pe_int (nomark _))))))) (pss_one (ps_raise rfl (takes_of rfl rfl rfl rfl) (pmk_oex V.o_T V.i_T V.t_T G_tinit (hr.mono (by decide)) V.b_tinit .nil pass0 (by rfl) V.g_InvalidText (by exact (pa_cons (L2.pe_fld (pv 0) (by rfl)) (pa_cons (pv 5) pa_nil)))))) pss_nil)
      (pss_cons (ps_dput hu (pv 3) (pv 6) (pv 9) rfl)
      (pss_one (ps_set (i := 4) sc_read_numbers.nd rfl (Or.inl rfl) (pv 6))))))))
      (pss_one (ps_ret (pv 3)))))), ?_⟩
    try dsimp only [cxOf]
    rw [show L2.start N_read_numbers [.ref a, .int 0, .int 60] = [some (.ref a), some (.int 0), some (.int 60), none, none, none, none, none, none, none] from rfl]
    refine g_seq ?_
    walk_at "hx"
    intro d hd
    walk_at "hx"
    refine g_seq ?_
    walk_at "hx"
    refine g_seq ?_
    walk_at "hx"
    have nad : a ≠ d := ne_of_none h1 hd
    have ndwd : dw ≠ d := ne_of_none h2 hd
    refine g_rng2 ?_
    walk_at "hx"
    refine g_at ?_
    walk_at "hx"
    refine ⟨a, V.CL, dx, fsL dw, .ref dw, rfl, ?_, V.c_L, V.n_words, rfl, ?_⟩
    · rw [upd_ne nad]; exact h1
    walk_at "hx"
    try refine g_lenL (SqL.of (show _ = some (.lst (ws.map L2.V.str)) by rw [upd_ne ndwd]; exact h2)) ?_
    walk_at "hx"
    refine ⟨0, ((ws.map L2.V.str).length : Int), rfl, ⟨by decide, by decide, by rw [List.length_map]; omega, by rw [List.length_map]; omega⟩, ?_⟩
    have en : (((ws.map L2.V.str).length : Int) - 0).toNat = ws.length := by rw [List.length_map]; omega
    rw [en]
    refine for_range (lo := 0) (n := ws.length) (fun i σ' H' => ∃ l, (∃ y5 y6 y7 y8 y9, σ' = [some (.ref a), some (.int 0), some (.int 60), some (.ref d), some (.str (lastI l)), y5, y6, y7, y8, y9]) ∧ Rd1 ws H d i l H') ?_ ?_ ?_
    · refine ⟨[], ⟨none, none, none, none, none, rfl⟩, asc_nil, rfl, rfl, upd_same, same_new hd⟩
    · rintro i σ' H2 hi ⟨l, ⟨y5, y6, y7, y8, y9, rfl⟩, R⟩
      obtain ⟨x, hx⟩ : ∃ x, ws[i]? = some x := ⟨ws[i], List.getElem?_eq_getElem hi⟩
      have mx : x ∈ ws := List.mem_of_getElem? hx
      have lx := sm x mx
      obtain ⟨pl1, pl2⟩ := part_len x
      rw [show (0 : Int) + (i : Int) = (i : Int) from Int.zero_add _]
      refine g_name ?_
      refine g_seq ?_
      walk_at "hx"
      refine g_bm ?_
      walk_at "hx"
      refine g_at ?_
      walk_at "hx"
      refine ⟨a, V.CL, dx, _, .ref dw, rfl, R.same _ _ h1, V.c_L, V.n_words, rfl, ?_⟩
      walk_at "hx"
      refine g_ixL (SqL.of (R.same _ _ h2)) (atI_nat (by rw [List.getElem?_map, hx]; rfl)) ?_
      walk_at "hx"
      refine ⟨x, _, rfl, rfl, len1E, small_of (by omega), ?_⟩
      intro p hp
      have ndp : d ≠ p := ne_of_none R.at_ hp
      have S3 : Same H (upd H2 p (.tup [.str (Txt.partition x (Str.ofString "=")).1, .str (Txt.partition x (Str.ofString "=")).2.1, .str (Txt.partition x (Str.ofString "=")).2.2])) := same_trans R.same (same_new hp)
      have d3 : upd H2 p (.tup [.str (Txt.partition x (Str.ofString "=")).1, .str (Txt.partition x (Str.ofString "=")).2.1, .str (Txt.partition x (Str.ofString "=")).2.2]) d = some (.dK (DI l)) := by rw [upd_ne ndp]; exact R.at_
      refine ⟨p, _, rfl, SqT.of upd_same, rfl, ?_⟩
      generalize upd H2 p (.tup [.str (Txt.partition x (Str.ofString "=")).1, .str (Txt.partition x (Str.ofString "=")).2.1, .str (Txt.partition x (Str.ofString "=")).2.2]) = H3 at S3 d3 ⊢
      refine ⟨_, _, rfl, ?_⟩
      refine g_name ?_
      refine ⟨_, _, rfl, ?_⟩
      refine g_name ?_
      refine ⟨_, _, rfl, ?_⟩
      refine g_name ?_
      refine ⟨rfl, ?_⟩
      rw [show (Txt.partition x (Str.ofString "=")) = part x from rfl]
      dsimp only [List.set]
      walk_at "hx"
      refine g_seq ?_
      walk_at "hx"
      refine ⟨_, rfl, by omega, ?_⟩
      walk_at "hx"
      refine g_seq ?_
      walk_at "hx"
      refine ⟨.str (part x).1, "str", rfl, .str _ (by omega), ?_⟩
      intro H4 s4
      have S4 : Same H H4 := same_trans S3 s4
      have d4 := s4 _ _ d3
      show ∃ k, L2.V.bl (okS (part x).1) = .bl k ∧ _
      have out : ¬ (okS (part x).1 = true ∧ lt (lastI l) (part x).1 ∧ numB (part x).2.2 = true) → ∀ D H', H4 D = none → Same H4 H' → H' D = some (.xd (fsT 0 (i : Nat))) → E (.ref V.CT) (some D) H' := fun g D H' hD s' e' =>
        k2 i D H' (scan_stop hx R.sc (good_no g)) (none_back S4 hD) (same_trans S4 s') e'
      refine ⟨_, rfl, ?_⟩
      cases g1 : okS (part x).1 with
      | false =>
        refine g_true rfl ?_
        refine g_true rfl ?_
        refine g_mkO ?_
        walk_at "hx"
        refine g_at ?_
        walk_at "hx"
        refine ⟨a, V.CL, dx, _, .int 0, rfl, S4 _ _ h1, V.c_L, V.n_index, rfl, ?_⟩
        walk_at "hx"
        exact raise_T (out (fun z => by rw [g1] at z; exact Bool.noConfusion z.1))
      | true =>
        refine g_false rfl ?_
        walk_at "hx"
        refine ⟨_, _, rfl, rfl, ?_⟩
        walk_at "hx"
        by_cases g2 : lt (lastI l) (part x).1
        · refine g_false (by rw [show decide ((lastI l).cps.toList < (part x).1.cps.toList) = true from decide_eq_true g2]; rfl) ?_
          walk_at "hx"
          cases g3 : numB (part x).2.2 with
          | true =>
            have rv : rdV (part x).2.2 = .int (numV (part x).2.2) := by unfold rdV; rw [if_pos g3]
            obtain ⟨_, nz, bd, _⟩ := num_int g3
            rw [rv]
            refine ⟨rfl, ?_⟩
            walk_at "hx"
            refine g_false (by simp [nz]) ?_
            walk_at "hx"
            refine g_seq ?_
            refine g_dput ?_
            walk_at "hx"
            have gd := good_yes g1 g2 g3
            have fr := R.asc.fresh gd
            have ln := R.len
            refine ⟨d, _, rfl, .inl ⟨DI l, Sum.inr (part x).1, d4, rfl, ?_, rfl⟩, ?_⟩
            · rw [DI_len]
              exact Nat.lt_of_lt_of_le (show l.length < 1000 by omega) (by decide)
            rw [DI_put, putI_new fr]
            walk_at "hx"
            refine ⟨_, ⟨_, _, _, _, _, by rw [lastI_snoc]; rfl⟩, R.asc.snoc gd, ?_, scan_next hx R.sc gd, upd_same, ?_⟩
            · rw [List.length_append, ln]; rfl
            · intro b o e
              rw [upd_ne (ne_of_none e hd)]
              exact S4 _ _ e
          | false =>
            have no : ¬ (okS (part x).1 = true ∧ lt (lastI l) (part x).1 ∧ numB (part x).2.2 = true) := fun z => by rw [g3] at z; exact Bool.noConfusion z.2.2
            by_cases z0 : (part x).2.2 = Str.ofString "0"
            · have rv : rdV (part x).2.2 = .int 0 := by unfold rdV; rw [g3, if_neg (by decide), if_pos z0]
              rw [rv]
              refine ⟨rfl, ?_⟩
              walk_at "hx"
              refine g_mkO ?_
              walk_at "hx"
              refine g_at ?_
              walk_at "hx"
              refine ⟨a, V.CL, dx, _, .int 0, rfl, S4 _ _ h1, V.c_L, V.n_index, rfl, ?_⟩
              walk_at "hx"
              exact raise_T (out (no))
            · have rv : rdV (part x).2.2 = .non := by unfold rdV; rw [g3, if_neg (by decide), if_neg z0]
              rw [rv]
              refine ⟨rfl, ?_⟩
              walk_at "hx"
              refine g_mkO ?_
              walk_at "hx"
              refine g_at ?_
              walk_at "hx"
              refine ⟨a, V.CL, dx, _, .int 0, rfl, S4 _ _ h1, V.c_L, V.n_index, rfl, ?_⟩
              walk_at "hx"
              exact raise_T (out (no))
        · refine g_true (by rw [show decide ((lastI l).cps.toList < (part x).1.cps.toList) = false from decide_eq_false g2]; rfl) ?_
          refine g_true rfl ?_
          refine g_mkO ?_
          walk_at "hx"
          refine g_at ?_
          walk_at "hx"
          refine ⟨a, V.CL, dx, _, .int 0, rfl, S4 _ _ h1, V.c_L, V.n_index, rfl, ?_⟩
          walk_at "hx"
          exact raise_T (out (fun z => g2 z.2.1))
    · rintro σ' H2 ⟨l, ⟨y5, y6, y7, y8, y9, rfl⟩, R⟩
      walk_at "hgo"
      exact k1 l d H2 (scan_done R.sc) hd R.same R.at_
theorem ok_read_vector (V : VF K mg) : FnOk P w K mg base (L2.CX P w) 4 V.fRV V.dRV ["line", "start"] (spRV V.CL V.CT) := by
  have G_read_numbers := ok_read_numbers (P := P) (w := w) (base := base) V
  have G_wordat := ok_word_at (P := P) (w := w) (base := base) V
  have G_endat := ok_end_at (P := P) (w := w) (base := base) V
  refine V.F_read_vector.okX sc_read_vector (fun vs H Q E h => ?_) (fun cdv A outer s H vs Q E hr h => ?_)
  · obtain ⟨a, ws, rfl, _⟩ := h
    rfl
  · obtain ⟨a, ws, rfl, la, ne, few, sm, k1, k2⟩ := h
    have hu := hu_of hr
    have T := V.t
    refine ⟨_, (pss_cons (ps_if (pt_cmpR op_eq (pe_meth (pv 0) V.c_L V.m_wordat G_wordat (hr.mono (by decide)) V.b_wordat .nil pass0 (pa_cons (pv 1) pa_nil)) pe_str (nomark _)) (pss_cons (ps_expr (pe_meth (pv 0) V.c_L V.m_endat G_endat (hr.mono (by decide)) V.b_endat .nil (passes_call (takes_of rfl rfl rfl rfl) (fun _ _ _ _ h => h)) (pa_cons (pe_op op_add (pv 1) pe_int) pa_nil)))
      (pss_one (ps_ret pe_dnewK))) pss_nil)
      (pss_one (ps_ret (pe_call G_read_numbers (hr.mono (by decide)) (by rfl) V.g_read_numbers V.F_read_numbers.kp V.b_read_numbers .nil (passes_call (takes_of rfl rfl rfl rfl) (fun _ _ _ _ h => h)) (pa_cons (pv 0) (pa_cons (pv 1) (pa_cons (pe_glob (v := .int 60) rfl V.g_vd V.r_vd) pa_nil))))))), ?_⟩
    try dsimp only [cxOf]
    obtain ⟨dw, dx, h1, h2⟩ := id la
    cases ws with
    | nil => exact absurd rfl ne
    | cons x r =>
      walk_at "hgo"
      refine g_meth ?_
      walk_at "hgo"
      refine ⟨a, dx, _, rfl, h1, fsL_no (by decide +kernel) (by decide +kernel), ?_⟩
      walk_at "hgo"
      refine ⟨a, x :: r, x, rfl, la, rfl, ?_⟩
      walk_at "hgo"
      by_cases e : x = Str.ofString "0"
      · have du : dueW (x :: r) = if r = [] then .inr [] else .inl 1 := if_pos e
        refine g_true (by simp [e]) ?_
        walk_at "hgo"
        refine g_meth ?_
        walk_at "hgo"
        refine ⟨a, dx, _, rfl, h1, fsL_no (by decide +kernel) (by decide +kernel), ?_⟩
        walk_at "hgo"
        refine ⟨a, x :: r, rfl, la, fun le => ?_, fun gt d H' hd s' e' => ?_⟩
        · have rn : r = [] := by
            cases r with
            | nil => rfl
            | cons b c => simp at le
          rw [if_pos rn] at du
          walk_at "hgo"
          intro d hd
          exact k1 [] d _ du hd (same_new hd) upd_same
        · have rn : r ≠ [] := fun z => by rw [z] at gt; simp at gt
          rw [if_neg rn] at du
          exact k2 1 d H' du hd s' e'
      · have du : dueW (x :: r) = scan (x :: r) 0 [] := if_neg e
        refine g_false (by simp [e]) ?_
        walk_at "hgo"
        refine ⟨a, x :: r, rfl, la, few, sm, fun l d H' q => k1 l d H' (du.trans q), fun i d H' q => k2 i d H' (du.trans q)⟩
theorem ok_read (V : VF K mg) : FnOk P w K mg base (L2.CX P w) 6 V.fRD V.dRD ["cls", "text"] (spRead K V.C V.CT) := by
  have G_read_vector := ok_read_vector (P := P) (w := w) (base := base) V
  have G_line_of := ok_line_of (P := P) (w := w) (base := base) V
  have G_init := k_init (P := P) (w := w) (base := base) V
  refine V.F_read.okX sc_Vector_read (fun vs H Q E h => ?_) (fun cdv A outer s H vs Q E hr h => ?_)
  · obtain ⟨v, rfl, _⟩ := h
    rfl
  · obtain ⟨v, rfl, h⟩ := h
    have hu := hu_of hr
    have T := V.t
    refine ⟨_, (pss_cons (ps_set (i := 2) sc_Vector_read.nd rfl (Or.inl rfl) (pe_call G_read_vector (hr.mono (by decide)) (by rfl) V.g_read_vector V.F_read_vector.kp V.b_read_vector .nil (passes_call (takes_of rfl rfl rfl rfl) (fun _ _ _ _ h => h)) (pa_cons (pe_call G_line_of (hr.mono (by decide)) (by rfl) V.g_line_of V.F_line_of.kp V.b_line_of .nil (passes_call (takes_of rfl rfl rfl rfl) (fun _ _ _ _ h => h)) (pa_cons (pv 1) pa_nil)) (pa_cons pe_int pa_nil))))
      (pss_one (ps_ret (pe_newS (pv 0) V.mk_V G_init (hr.mono (by decide)) pass0 (pv 2))))), ?_⟩
    try dsimp only [cxOf]
    rcases h with ⟨t, rfl, ht, few, k1, k2⟩ | ⟨hn, k⟩
    · walk_at "hgo"
      refine ⟨.str t, rfl, .inl ⟨t, rfl, ht, fun a H1 ha s1 la => ?_⟩⟩
      walk_at "hgo"
      have nw : wordsOf t ≠ [] := fun e => by have := words_len t; rw [e] at this; cases this
      refine ⟨a, wordsOf t, rfl, la, nw, few, fun x hx => Nat.le_trans (words_mem hx) ht, fun l d H2 q hd s2 e2 => ?_, fun i d H2 q hd s2 e2 => k2 i d H2 q (none_back s1 hd) (same_trans s1 s2) e2⟩
      have al : Asc l ∧ l.length ≤ 60 := by
        have q' : dueW (wordsOf t) = .inr l := q
        generalize wordsOf t = ws at q' few nw
        cases ws with
        | nil => exact absurd rfl nw
        | cons x r =>
          unfold dueW at q'
          simp only at q'
          split at q'
          · split at q'
            · have := Sum.inr.inj q'
              subst this
              exact ⟨asc_nil, Nat.zero_le _⟩
            · cases q'
          · have z := scan_asc _ _ _ _ asc_nil q'
            rw [List.length_nil] at z
            exact ⟨z.1, by omega⟩
      walk_at "hgo"
      refine g_newS ?_
      walk_at "hgo"
      refine ⟨rfl, ?_⟩
      walk_at "hgo"
      refine new_of e2 al.1.ok (pw_nodup al.1.asc) al.2 fun b r H3 hb s3 va kp => ?_
      have er : r = l := va.can.ext al.1.can kp.vl
      rw [er] at va
      exact k1 l b H3 q al.1 al.2 (none_back (same_trans s1 s2) hb) (same_trans (same_trans s1 s2) s3) va
    · walk_at "hgo"
      exact ⟨v, rfl, .inr ⟨hn, k⟩⟩
end

/-! the law's words and numbers -/
theorem dp_signs {K : PySem.W.Frag} {H : Hp} : ∀ l : List Nat, DpAll K H (l.map fun c => L2.V.str ⟨#[c]⟩) (l.map fun c => PyData.str ⟨#[c]⟩)
  | [] => .nil
  | c :: r => .cons (.str _) (dp_signs r)
theorem shaped_signs : ∀ l : List Nat, (∀ c ∈ l, c < 0x110000) → PyData.canLayAll0 (l.map fun c => PyData.str ⟨#[c]⟩) = true ∧ PyData.depthAll (l.map fun c => PyData.str ⟨#[c]⟩) ≤ 1
  | [], _ => by simp [PyData.canLayAll0, PyData.depthAll]
  | c :: r, h => by
    have ih := shaped_signs r fun x hx => h x (List.mem_cons_of_mem _ hx)
    have hc := h c List.mem_cons_self
    rw [List.map_cons]
    simp only [PyData.canLayAll0, PyData.canLay0, PyData.depthAll, PyData.depth]
    refine ⟨?_, by omega⟩
    rw [ih.1, Bool.and_true]
    simp [PyData.strOk]
    exact hc
theorem shapedSigns {l : List Nat} (h : ∀ c ∈ l, c < 0x110000) : SeqAt.shaped (.list (l.map fun c => PyData.str ⟨#[c]⟩)) = true := by
  have s := shaped_signs l h
  have h1 : PyData.canLay0 (.list (l.map fun c => PyData.str ⟨#[c]⟩)) = true := by
    simp only [PyData.canLay0]
    exact s.1
  have h2 : PyData.depth (.list (l.map fun c => PyData.str ⟨#[c]⟩)) ≤ 64 := by
    simp only [PyData.depth]
    omega
  unfold SeqAt.shaped
  rw [h1, Bool.true_and]
  exact decide_eq_true h2
theorem eqvSigns (l : List Nat) : PyData.eqv (.list (l.map fun c => PyData.str ⟨#[c]⟩)) (.list []) = decide (l = []) := by
  cases l with
  | nil => simp [PyData.eqv, PyData.eqvAll]
  | cons a r => simp [PyData.eqv, PyData.eqvAll]
def odd (z : Str) (l : List Nat) : List Nat := l.filter fun c => !decide (c ∈ z.cps.toList)
theorem odd_in {z : Str} {l : List Nat} {c : Nat} (m : c ∈ z.cps.toList) : odd z (l ++ [c]) = odd z l := by
  unfold odd
  rw [List.filter_append, List.filter_cons_of_neg (by rw [decide_eq_true m]; decide), List.filter_nil, List.append_nil]
theorem odd_out {z : Str} {l : List Nat} {c : Nat} (m : ¬ c ∈ z.cps.toList) : odd z (l ++ [c]) = odd z l ++ [c] := by
  unfold odd
  rw [List.filter_append, List.filter_cons_of_pos (by rw [decide_eq_false m]; rfl), List.filter_nil]
theorem odd_nil (z : Str) (l : List Nat) : decide (odd z l = []) = l.all fun c => decide (c ∈ z.cps.toList) := by
  unfold odd
  rw [Bool.eq_iff_iff]
  simp [List.filter_eq_nil_iff, List.all_eq_true]
def digitS : Str := Str.ofString "0123456789"
theorem digitS_is : digitS.cps.toList = List.range' 48 10 := by decide +kernel
theorem mem_digitS (c : Nat) : decide (c ∈ digitS.cps.toList) = dig c := by
  rw [digitS_is, Bool.eq_iff_iff, decide_eq_true_eq, List.mem_range'_1]
  unfold dig
  simp
  omega
theorem letter_at {d : Int} (h0 : 0 ≤ d) (h1 : d < 26) : ∃ c, atI letters.cps.toList d = some c ∧ c ∈ letters.cps.toList := by
  obtain ⟨j, rfl⟩ : ∃ j : Nat, d = (j : Int) := ⟨d.toNat, by omega⟩
  have hj : j < letters.cps.toList.length := by
    rw [letters_is, List.length_range']
    omega
  exact ⟨letters.cps.toList[j], atI_nat (List.getElem?_eq_getElem hj), List.getElem_mem hj⟩
theorem okS_mk {l : List Nat} (h0 : 0 < l.length) (h9 : l.length < 9) (h : ∀ c ∈ l, c ∈ letters.cps.toList) (ns : (⟨l.toArray⟩ : Str) ≠ Str.ofString "self") : okS ⟨l.toArray⟩ = true := by
  unfold okS
  have e : (⟨l.toArray⟩ : Str).length = l.length := List.size_toArray
  rw [e, decide_eq_true h0, decide_eq_true h9, decide_eq_false ns]
  show (true && true && !false && l.all _) = true
  rw [List.all_eq_true.mpr fun c hc => decide_eq_true (h c hc)]
  rfl
theorem okS_a : okS (Str.ofString "a") = true := by decide +kernel
theorem Led.keepP {q p : Addr} {b b3 : Nat} {H H3 H5 : Hp} {o : HO} (l : Led q b H H5) (P3 : Pen H3 q b3) (hp : H3 p = none) (t3 : But q H H3) (t5 : But q H3 H5) : Led q b H (upd H5 p o) := l.keep P3 hp t3 t5
theorem keepBut {q p : Addr} {b3 : Nat} {H3 H5 : Hp} {o : HO} (P3 : Pen H3 q b3) (hp : H3 p = none) (t5 : But q H3 H5) : But q H3 (upd H5 p o) := by
  have n := P3.ne hp
  refine ⟨fun a u na e => ?_, fun d x y e => ?_⟩
  · rw [upd_ne (ne_of_none e hp)]
    exact t5.st a u na e
  · rw [upd_ne n.symm]
    exact t5.cl d x y e
theorem Led.more {q : Addr} {b b' : Nat} {H H' : Hp} (l : Led q b H H') (h : b ≤ b') : Led q b' H H' := ⟨l.pen.more h, l.but⟩
/-- a text of valid signs -/
def Fit (s : Str) : Prop := ∀ c ∈ TL.tl s, c < 128
def spWord : Sp := fun vs H Q _ => ∃ (q : Addr) (b : Nat), vs = [.ref q] ∧ Pen H q b ∧ b ≤ 90000 ∧ ∀ (s : Str) (H' : Hp), okS s = true → Led q (b + 11) H H' → Q (.str s) H'
def spWhole : Sp := fun vs H Q _ => ∃ (q : Addr) (b : Nat), vs = [.ref q] ∧ Pen H q b ∧ b ≤ 80000 ∧ ∀ (i : Int) (H' : Hp), i ≠ 0 → i.natAbs < 10 ^ 60 → Led q (b + 5) H H' → Q (.int i) H'
def spIsName : Sp := fun vs H Q _ => ∃ s, vs = [.str s] ∧ s.length ≤ 100000 ∧ Fit s ∧ ∀ H', Same H H' → Q (.bl (okS s)) H'
def spIsNumber : Sp := fun vs H Q _ => ∃ s, vs = [.str s] ∧ s.length ≤ 100000 ∧ Fit s ∧ ∀ H', Same H H' → Q (.bl (numB s)) H'
theorem TxtV.d {mg : Str → Option Value} (T : TxtV mg) : TxtD mg := ⟨T.int, T.len, T.abs⟩
theorem TxtV.p {mg : Str → Option Value} (T : TxtV mg) : TxtP mg := ⟨T.list, T.len, T.range⟩
section
variable {P : Program} {w : World} {K : PySem.W.Frag} {mg : Str → Option Value} {base : Heap}
theorem k_law_draw (V : VF K mg) : FnOk P w K mg base CX0 1 V.fLD V.dLD ["_law_pen_here", "_law_many"] spDraw := ok_law_draw V.F_law_draw V.t.d
theorem k_law_pick (V : VF K mg) : FnOk P w K mg base CX0 2 V.fLK V.dLK ["_law_pen_here", "_law_some"] spPick := ok_law_pick V.F_law_pick V.t.d V.t.p V.F_law_draw V.b_law_draw V.g_law_draw
theorem k_law_pen (V : VF K mg) : FnOk P w K mg base CX0 1 V.fLP V.dLP ["_law_script"] (spPen K) := ok_law_pen V.F_law_pen V.t.p
theorem ok_law_word (V : VF K mg) : FnOk P w K mg base CX0 2 V.fLW V.dLW ["_law_pen_here"] spWord := by
  have G_law_draw := k_law_draw (P := P) (w := w) (base := base) V
  refine V.F_law_word.ok sc_law_word (fun vs H Q E h => ?_) (fun cdv A outer s H vs Q E hr h => ?_)
  · obtain ⟨q, b, rfl, _⟩ := h
    rfl
  · obtain ⟨q, b, rfl, hP, hb, k⟩ := h
    have T := V.t
    refine ⟨_, (pss_cons (ps_set (i := 1) sc_law_word.nd rfl (Or.inr rfl) pe_str)
      (pss_cons (ps_set (i := 2) sc_law_word.nd rfl (Or.inl rfl) (pe_ix ix_list (pe_lst (pa_cons pe_int (pa_cons pe_int (pa_cons pe_int (pa_cons (pe_op op_add pe_int (pe_call G_law_draw (hr.mono (by decide)) (by rfl) V.g_law_draw V.F_law_draw.kp V.b_law_draw .nil pass0 (pa_cons (pv 0) (pa_cons pe_int pa_nil)))) pa_nil))))) (pe_call G_law_draw (hr.mono (by decide)) (by rfl) V.g_law_draw V.F_law_draw.kp V.b_law_draw .nil pass0 (pa_cons (pv 0) (pa_cons pe_int pa_nil))) (fun _ _ => rfl)))
      (pss_cons (ps_set (i := 3) sc_law_word.nd rfl (Or.inl rfl) (pe_joinJ pe_str (pe_lc (own := [("_law_k", 4)]) (g := gName 4) rfl sc_law_word.nd (pi_range1 rfl T.range (pa_cons (pv 2) pa_nil)) (blkOk_by (own := [("_law_k", 4)]) (N := N_law_word) (sc := defScope s_law_word) (by decide +kernel)) (fun _ _ _ _ _ => pg_name (i := 4) sc_law_word.nd rfl (Or.inl rfl)) (fun _ _ _ _ _ => pts_nil) (fun _ _ _ _ _ => (pe_ix ix_str (pv 1) (pe_call G_law_draw (hr.mono (by decide)) (by rfl) V.g_law_draw V.F_law_draw.kp V.b_law_draw .nil pass0 (pa_cons (pv 0) (pa_cons pe_int pa_nil))) (fun _ _ => rfl))))))
      (pss_one (ps_ret (pe_ifExp (pt_cmpR op_eq (pv 3) pe_str (nomark _)) pe_str (pv 3))))))), ?_⟩
    try dsimp only [cxOf]
    walk_at "hgo"
    refine ⟨q, 8, b, rfl, hP, by omega, by decide, by decide, ?_⟩
    intro d H1 d0 d1 P1 t1
    walk_at "hgo"
    intro p hp
    have L1 : Led q (b + 1) H H1 := ⟨P1, t1⟩
    have L2' := L1.new (o := .lst [L2.V.int 1, L2.V.int 2, L2.V.int 8, L2.V.int (1 + d)]) hp
    have npq : p ≠ q := P1.ne hp
    walk_at "hgo"
    refine ⟨q, 4, b + 1, rfl, L2'.pen, by omega, by decide, by decide, ?_⟩
    intro e H3 e0 e1 P3 t3
    have L3 := L2'.draw P3 t3
    have hp3 : H3 p = some (.lst [L2.V.int 1, L2.V.int 2, L2.V.int 8, L2.V.int (1 + d)]) := t3.st p _ npq upd_same
    walk_at "hgo"
    obtain ⟨m, em, m0, m9⟩ : ∃ m : Int, atI [L2.V.int 1, L2.V.int 2, L2.V.int 8, L2.V.int (1 + d)] e = some (.int m) ∧ 1 ≤ m ∧ m ≤ 8 := by
      have h : e = 0 ∨ e = 1 ∨ e = 2 ∨ e = 3 := by omega
      rcases h with rfl | rfl | rfl | rfl
      · exact ⟨1, rfl, by omega, by omega⟩
      · exact ⟨2, rfl, by omega, by omega⟩
      · exact ⟨8, rfl, by omega, by omega⟩
      · exact ⟨1 + d, rfl, by omega, by omega⟩
    refine g_ixL (SqL.of hp3) em ?_
    walk_at "hgo"
    refine g_rng (by omega) (by omega) ?_
    intro D hD
    refine lc_range (n := m.toNat) (fun i H' => Led q (b + 2 + i) H H' ∧ But q H3 H' ∧ ∃ l : List Nat, l.length = i ∧ (∀ c ∈ l, c ∈ letters.cps.toList) ∧ H' D = some (.lst (l.map fun c => L2.V.str ⟨#[c]⟩))) ⟨L3.new hD, (But.self (q := q) (H := H3)).new hD, [], rfl, fun _ h => (nomatch h), upd_same⟩ ?_ ?_
    · rintro i H4 hi ⟨L4, t45, l, ll, lo, hl⟩
      walk_at "hgo"
      refine ⟨rfl, ?_⟩
      walk_at "hgo"
      refine ⟨q, 26, b + 2 + i, rfl, L4.pen, by omega, by decide, by decide, ?_⟩
      intro x H5 x0 x1 P5 t5
      have L5 := L4.draw P5 t5
      obtain ⟨c, hc, hcc⟩ := letter_at x0 x1
      walk_at "hgo"
      refine g_ixS (by decide +kernel) hc ?_
      have nD : D ≠ q := L3.pen.ne hD
      refine ⟨_, t5.st D _ nD hl, ?_, ?_, ?_, ?_⟩
      · rw [List.length_map, ll]
        exact Nat.lt_of_lt_of_le (show i < 1000 by omega) (by decide)
      · exact L5.keep L3.pen hD L3.but (t45.trans t5)
      · exact keepBut L3.pen hD (t45.trans t5)
      · refine ⟨l ++ [c], ?_, ?_, ?_⟩
        · rw [List.length_append, ll]
          rfl
        · intro z hz
          rcases List.mem_append.mp hz with h | h
          · exact lo z h
          · rw [List.mem_singleton.mp h]
            exact hcc
        · rw [upd_same, List.map_append]
          rfl
    · rintro H4 ⟨L4, t45, l, ll, lo, hl⟩
      walk_at "hgo"
      have e1 : l.map (fun c => L2.V.str ⟨#[c]⟩) = (l.map fun c => (⟨#[c]⟩ : Str)).map L2.V.str := by
        rw [List.map_map]
        rfl
      rw [e1] at hl
      have e2 : ((l.map fun c => (⟨#[c]⟩ : Str)).map (·.length)).sum = l.length := by
        clear hl e1 lo ll
        induction l with
        | nil => rfl
        | cons c r ih =>
          rw [List.map_cons, List.map_cons, List.sum_cons, ih, List.length_cons]
          show 1 + r.length = _
          omega
      refine g_join (SqL.of hl) ?_ ?_
      · rw [e2]
        show l.length + _ * 0 ≤ _
        omega
      · rw [join_signs]
        walk_at "hgo"
        by_cases z : (⟨l.toArray⟩ : Str) = Str.ofString "self"
        · refine g_true (by simp [z]) ?_
          walk_at "hgo"
          exact k _ H4 okS_a (L4.more (by omega))
        · refine g_false (by simp [z]) ?_
          walk_at "hgo"
          exact k _ H4 (okS_mk (by omega) (by omega) lo z) (L4.more (by omega))
theorem ok_law_great (V : VF K mg) : FnOk P w K mg base CX0 2 V.fLG V.dLG ["_law_pen_here", "_law_most"] spGreat := by
  have G_law_draw := k_law_draw (P := P) (w := w) (base := base) V
  have F_law_draw := V.F_law_draw
  have b_law_draw := V.b_law_draw
  have g_law_draw := V.g_law_draw
  refine V.F_law_great.ok sc_law_great (fun vs H Q E h => ?_) (fun cdv A outer s H vs Q E hr h => ?_)
  · obtain ⟨q, m, b, rfl, _⟩ := h
    rfl
  · obtain ⟨q, m, b, rfl, hP, hb, m1, m2, k⟩ := h
    have T := V.t
    refine ⟨_, (pss_cons (ps_set (i := 2) sc_law_great.nd rfl (Or.inl rfl) pe_int)
      (pss_cons (ps_for PassesOwn.never rfl (pi_range1 rfl T.range (pa_cons (pe_call G_law_draw (hr.mono (by decide)) (by rfl) g_law_draw F_law_draw.kp b_law_draw .nil pass0 (pa_cons (pv 0) (pa_cons (pv 1) pa_nil))) pa_nil)) (pg_name (i := 3) sc_law_great.nd rfl (Or.inl rfl)) (pss_one (ps_set (i := 2) sc_law_great.nd rfl (Or.inl rfl) (pe_op op_mul pe_int (pv 2)))))
      (pss_one (ps_ret (pe_op op_sub (pv 2) (pe_call G_law_draw (hr.mono (by decide)) (by rfl) g_law_draw F_law_draw.kp b_law_draw .nil pass0 (pa_cons (pv 0) (pa_cons pe_int pa_nil)))))))), ?_⟩
    try dsimp only [cxOf]
    walk_at "hline"
    walk_at "hline"
    refine ⟨q, m, b, rfl, hP, by omega, m1, by omega, ?_⟩
    intro d H1 d0 d1 P1 t1
    walk_at "hx"
    refine g_rng (by omega) (by omega) ?_
    refine for_range (n := d.toNat) (fun i σ' H' => (∃ y, σ' = [some (.ref q), some (.int m), some (.int (10 ^ i)), y]) ∧ H' = H1) ⟨⟨none, rfl⟩, rfl⟩ ?_ ?_
    · rintro i σ' H2 hi ⟨⟨y, rfl⟩, rfl⟩
      walk_at "hgo"
      refine ⟨⟨some (.int (0 + (i : Int))), ?_⟩, rfl⟩
      rw [Int.pow_succ, Int.mul_comm]
      rfl
    · rintro σ' H2 ⟨⟨y, rfl⟩, rfl⟩
      walk_at "hgo"
      refine ⟨q, 2, b + 1, rfl, P1, by omega, by decide, by decide, ?_⟩
      intro e H3 e0 e1 P3 t3
      walk_at "hgo"
      have h1 : (10 : Int) ^ d.toNat ≤ 10 ^ (m.toNat - 1) := by
        have : (10 : Nat) ^ d.toNat ≤ 10 ^ (m.toNat - 1) := Nat.pow_le_pow_right (by decide) (by omega)
        exact_mod_cast this
      have h0 : (1 : Int) ≤ 10 ^ d.toNat := by
        have : (1 : Nat) ≤ 10 ^ d.toNat := Nat.one_le_pow _ _ (by decide)
        exact_mod_cast this
      have big : (10 : Int) ^ (m.toNat - 1) = ((10 ^ (m.toNat - 1) : Nat) : Int) := by norm_cast
      generalize (10 : Int) ^ d.toNat = g at h0 h1 ⊢
      generalize hz : (10 : Nat) ^ (m.toNat - 1) = z at big
      rw [big] at h1
      refine k _ H3 (by omega) (by rw [hz]; omega) P3 (t1.trans t3)
theorem ok_law_whole (V : VF K mg) : FnOk P w K mg base CX0 3 V.fLH V.dLH ["_law_pen_here"] spWhole := by
  have G_law_draw := k_law_draw (P := P) (w := w) (base := base) V
  have G_law_pick := k_law_pick (P := P) (w := w) (base := base) V
  have G_law_great := ok_law_great (P := P) (w := w) (base := base) V
  refine V.F_law_whole.ok sc_law_whole (fun vs H Q E h => ?_) (fun cdv A outer s H vs Q E hr h => ?_)
  · obtain ⟨q, b, rfl, _⟩ := h
    rfl
  · obtain ⟨q, b, rfl, hP, hb, k⟩ := h
    have T := V.t
    refine ⟨_, (pss_cons (ps_set (i := 1) sc_law_whole.nd rfl (Or.inl rfl) (pe_call G_law_great (hr.mono (by decide)) (by rfl) V.g_law_great V.F_law_great.kp V.b_law_great .nil pass0 (pa_cons (pv 0) (pa_cons pe_int pa_nil))))
      (pss_one (ps_ret (pe_op op_mulW (pe_call G_law_pick (hr.mono (by decide)) (by rfl) V.g_law_pick V.F_law_pick.kp V.b_law_pick .nil pass0 (pa_cons (pv 0) (pa_cons (pe_lst (pa_cons pe_int (pa_cons (pe_un un_neg pe_int) pa_nil))) pa_nil))) (pe_callB (call_max2 rfl) (by rfl) V.u.max (by decide +kernel) (pa_cons pe_int (pa_cons (pe_ix ix_list (pe_lst (pa_cons (pe_op op_add pe_int (pe_call G_law_draw (hr.mono (by decide)) (by rfl) V.g_law_draw V.F_law_draw.kp V.b_law_draw .nil pass0 (pa_cons (pv 0) (pa_cons pe_int pa_nil)))) (pa_cons (pv 1) pa_nil))) (pe_call G_law_draw (hr.mono (by decide)) (by rfl) V.g_law_draw V.F_law_draw.kp V.b_law_draw .nil pass0 (pa_cons (pv 0) (pa_cons pe_int pa_nil))) (fun _ _ => rfl)) pa_nil))))))), ?_⟩
    try dsimp only [cxOf]
    walk_at "hgo"
    refine ⟨q, 60, b, rfl, hP, by omega, by decide, by decide, ?_⟩
    intro g H1 g0 g1 P1 t1
    have L1 : Led q (b + 2) H H1 := ⟨P1, t1⟩
    walk_at "hgo"
    intro p hp
    have L2' := L1.new (o := .lst [L2.V.int 1, L2.V.int (-1)]) hp
    walk_at "hgo"
    refine ⟨q, p, b + 2, _, rfl, L2'.pen, by omega, P1.ne hp, upd_same, by simp, by simp, ?_⟩
    intro v H3 hv P3 t3
    have L3 := L2'.draw P3 t3
    obtain ⟨o, rfl, bo⟩ : ∃ o : Int, v = .int o ∧ (o = 1 ∨ o = -1) := by
      simp only [List.mem_cons, List.not_mem_nil, or_false] at hv
      rcases hv with rfl | rfl
      · exact ⟨1, rfl, .inl rfl⟩
      · exact ⟨-1, rfl, .inr rfl⟩
    walk_at "hgo"
    refine ⟨q, 12, b + 2 + 1, rfl, L3.pen, by omega, by decide, by decide, ?_⟩
    intro d H4 d0 d1 P4 t4
    have L4 := L3.draw P4 t4
    walk_at "hgo"
    intro r hr'
    have L5 := L4.new (o := .lst [L2.V.int (1 + d), L2.V.int g]) hr'
    have nrq : r ≠ q := P4.ne hr'
    walk_at "hgo"
    refine ⟨q, 2, b + 2 + 1 + 1, rfl, L5.pen, by omega, by decide, by decide, ?_⟩
    intro e H6 e0 e1 P6 t6
    have L6 := L5.draw P6 t6
    walk_at "hgo"
    have small : g ≤ 10 ^ 59 := by
      have : g.natAbs ≤ 10 ^ 59 := g1
      have e2 : (10 : Int) ^ 59 = ((10 ^ 59 : Nat) : Int) := by norm_cast
      rw [e2]
      generalize (10 : Nat) ^ 59 = z at this ⊢
      omega
    obtain ⟨m, em, m0, mb⟩ : ∃ m : Int, atI [L2.V.int (1 + d), L2.V.int g] e = some (.int m) ∧ 0 ≤ m ∧ m ≤ 10 ^ 59 := by
      have h : e = 0 ∨ e = 1 := by omega
      rcases h with rfl | rfl
      · exact ⟨1 + d, rfl, by omega, Int.le_trans (show 1 + d ≤ 100 by omega) (by decide +kernel)⟩
      · exact ⟨g, rfl, g0, small⟩
    refine g_ixL (SqL.of (t6.st _ _ nrq upd_same)) em ?_
    walk_at "hgo"
    refine ⟨1, m, rfl, ?_⟩
    obtain ⟨n, en, n1, nb⟩ : ∃ n : Int, n = (if m > 1 then m else 1) ∧ 1 ≤ n ∧ n ≤ 10 ^ 59 := by
      refine ⟨_, rfl, ?_, ?_⟩
      · split <;> omega
      · split
        · exact mb
        · decide +kernel
    rw [← en]
    have nn : n.natAbs < 10 ^ 60 := by
      have e2 : (10 : Int) ^ 59 = ((10 ^ 59 : Nat) : Int) := by norm_cast
      have e3 : (10 : Nat) ^ 59 < 10 ^ 60 := by decide +kernel
      rw [e2] at nb
      generalize (10 : Nat) ^ 59 = z at nb e3
      omega
    have n400 : n.natAbs < 2 ^ 400 := Nat.lt_trans nn (by decide +kernel)
    walk_at "hgo"
    refine g_I (wide_mul (a := 400) (b := 400) (by rcases bo with rfl | rfl <;> decide +kernel) n400 (by decide) (by decide) (by decide)) ?_
    walk_at "hgo"
    refine k _ H6 ?_ ?_ (L6.more (by omega))
    · rcases bo with rfl | rfl <;> omega
    · rcases bo with rfl | rfl
      · rw [Int.one_mul]; exact nn
      · have : (-1 * n).natAbs = n.natAbs := by omega
        rw [this]; exact nn
end

/-! the law's own look at names, numbers and texts -/
theorem Fit.all {s : Str} (h : Fit s) : ∀ c ∈ s.cps.toList, c < 0x110000 := fun c hc => Nat.lt_trans (h c hc) (by decide)
theorem fit_strOk {s : Str} (h : Fit s) : PyData.strOk s = true := by
  unfold PyData.strOk
  rw [← Array.all_toList, List.all_eq_true]
  intro c hc
  exact decide_eq_true (h.all c hc)
theorem fit_parts {t w : Str} (h : Fit t) (m : w ∈ parts t) : Fit w := fun c hc => by
  have z := (parts_mem m).2 c
  have p : 0 < (TL.tl w).count c := List.count_pos_iff.mpr hc
  exact h c (List.count_pos_iff.mp (show 0 < (TL.tl t).count c by omega))
theorem fit_words {t w : Str} (h : Fit t) (m : w ∈ wordsOf t) : Fit w := fun c hc => by
  have q : TL.tl w ∈ TL.spl [32] 0 [] (TL.tl t) := by rw [← words_tl]; exact List.mem_map_of_mem m
  have z := (spl_mem _ _ _ q).2 c
  rw [List.count_nil] at z
  have p : 0 < (TL.tl w).count c := List.count_pos_iff.mpr hc
  exact h c (List.count_pos_iff.mp (show 0 < (TL.tl t).count c by omega))
theorem fit_empty : Fit (Str.ofString "") := by
  have : TL.tl (Str.ofString "") = [] := by decide +kernel
  intro c hc
  rw [this] at hc
  cases hc
theorem cut1_tl (s : Str) : TL.tl (cutS s none (some 1)) = (TL.tl s).take 1 := by
  show ((TL.tl s).drop 0).take (min 1 s.length - 0) = _
  rw [List.drop_zero, Nat.sub_zero, TL.len_tl]
  cases TL.tl s with
  | nil => rfl
  | cons a r =>
    rw [List.length_cons, Nat.min_eq_left (by omega)]
theorem cutr_tl (s : Str) : TL.tl (cutS s (some 1) none) = (TL.tl s).tail := by
  show ((TL.tl s).drop (min 1 s.length)).take (s.length - min 1 s.length) = _
  rw [TL.len_tl]
  cases TL.tl s with
  | nil => rfl
  | cons a r =>
    rw [List.length_cons, Nat.min_eq_left (by omega), List.drop_one]
    exact List.take_of_length_le (by rw [List.tail_cons]; omega)
theorem cut1_minus (s : Str) : decide (L2.V.str (cutS s none (some 1)) = L2.V.str (Str.ofString "-")) = decide ((TL.tl s).head? = some 45) := by
  rw [Bool.eq_iff_iff, decide_eq_true_eq, decide_eq_true_eq]
  have e := cut1_tl s
  constructor
  · intro z
    rw [V.str.inj z, minus_tl] at e
    generalize TL.tl s = l at e ⊢
    cases l with
    | nil => cases e
    | cons a r =>
      rw [List.take_succ_cons, List.take_zero] at e
      rw [List.head?_cons, (List.cons.inj e).1]
  · intro z
    refine congrArg L2.V.str (TL.ext_tl ?_)
    rw [e, minus_tl]
    generalize TL.tl s = l at z ⊢
    cases l with
    | nil => cases z
    | cons a r =>
      rw [List.head?_cons] at z
      rw [Option.some.inj z]
      rfl
/-- the bare digits of a text -/
def bareS (s : Str) : Str := if (TL.tl s).head? = some 45 then cutS s (some 1) none else s
theorem bareS_tl (s : Str) : TL.tl (bareS s) = bare (TL.tl s) := by
  unfold bareS bare
  split
  · exact cutr_tl s
  · rfl
section
variable {P : Program} {w : World} {K : PySem.W.Frag} {mg : Str → Option Value} {base : Heap}
theorem ok_law_is_name (V : VF K mg) : FnOk P w K mg base CX0 1 V.fLI V.dLI ["_law_thing"] spIsName := by
  refine V.F_law_is_name.ok sc_law_is_name (fun vs H Q E h => ?_) (fun cdv A outer s H vs Q E hr h => ?_)
  · obtain ⟨s, rfl, _⟩ := h
    rfl
  · obtain ⟨x, rfl, hs, fit, k⟩ := h
    have T := V.t
    refine ⟨_, (pss_cons (ps_if (PW.pt (pw_or (pt_not (pt_chain op_lt op_lt pe_int (pe_callB call_lenS (by rfl) T.len (by decide +kernel) (pa_cons (pv 0) pa_nil)) pe_int)) (pw_or1 (pt_cmpR op_eq (pv 0) pe_str (nomark _))))) (pss_one (ps_ret pe_bl)) pss_nil)
      (pss_one (ps_ret (pe_cmpR (op_eqD (hr.units)) (pe_lc (own := [("_law_sign", 1)]) (g := gName 1) rfl sc_law_is_name.nd (pi_str (pv 0)) (blkOk_by (own := [("_law_sign", 1)]) (N := N_law_is_name) (sc := defScope s_law_is_name) (by decide +kernel)) (fun _ _ _ _ _ => pg_name (i := 1) sc_law_is_name.nd rfl (Or.inl rfl)) (fun _ _ _ _ _ => (pts_one (pt_cmpR op_notInS (pv 1) pe_str rfl))) (fun _ _ _ _ _ => (pv 1))) (pe_lst pa_nil) (nomark _))))), ?_⟩
    try dsimp only [cxOf]
    walk_at "hgo"
    refine g_lenS (small_of (by omega)) ?_
    walk_at "hgo"
    refine ite2 (fun c1 => ?_) (fun c1 => ?_)
    · walk_at "hgo"
      have z0 : 0 < x.length := by
        have := of_decide_eq_true c1
        omega
      refine ite2 (fun c2 => ?_) (fun c2 => ?_)
      · try refine g_true rfl ?_
        walk_at "hgo"
        have e : okS x = false := by
          have z : ¬ x.length < 9 := by
            simp at c2
            omega
          unfold okS
          rw [decide_eq_false z]
          simp
        rw [e] at k
        exact k H (Same.refl H)
      · walk_at "hgo"
        have z9 : x.length < 9 := by
          have : decide ((x.length : Int) < 9) = true := by simpa using c2
          have := of_decide_eq_true this
          omega
        refine ite2 (fun c3 => ?_) (fun c3 => ?_)
        · walk_at "hgo"
          have e : okS x = false := by
            have q : x = Str.ofString "self" := L2.V.str.inj (of_decide_eq_true c3)
            unfold okS
            rw [decide_eq_true q]
            simp
          rw [e] at k
          exact k H (Same.refl H)
        · walk_at "hgo"
          have q : ¬ x = Str.ofString "self" := fun w => c3 (decide_eq_true (congrArg L2.V.str w))
          have e : okS x = decide (odd letters x.cps.toList = []) := by
            rw [odd_nil]
            unfold okS
            rw [decide_eq_true z0, decide_eq_true z9, decide_eq_false q]
            simp
          rw [e] at k
          have hl : x.cps.size = x.cps.toList.length := (Array.length_toList).symm
          refine fun D hD => lc_it walk_str (fun i H' => Same H H' ∧ H' D = some (.lst ((odd letters (x.cps.toList.take i)).map fun c => L2.V.str ⟨#[c]⟩))) ?_ (fun _ _ _ _ => trivial) ?_ ?_
          · refine ⟨fun b o e => ?_, ?_⟩
            · rw [upd_ne (ne_of_none e hD)]
              exact e
            · rw [upd_same]
              rfl
          · rintro i y H1 H2 hi ⟨sm, hd⟩ ⟨rfl, c, hc, rfl⟩
            walk_at "hgo"
            refine ⟨rfl, ?_⟩
            walk_at "hgo"
            have hc' : x.cps.toList[i]? = some c := by
              rw [Array.getElem?_toList]
              exact hc
            have tk : x.cps.toList.take (i + 1) = x.cps.toList.take i ++ [c] := by
              rw [List.take_add_one, hc']
              rfl
            show (if (!decide (c ∈ letters.cps.toList)) = true then _ else _)
            by_cases m : c ∈ letters.cps.toList
            · refine g_false (by simp [m]) ?_
              refine ⟨sm, ?_⟩
              rw [tk, hd, odd_in m]
            · refine g_true (by simp [m]) ?_
              walk_at "hgo"
              refine ⟨_, hd, ?_, fun b o e => ?_, ?_⟩
              · rw [List.length_map]
                have h1 : (odd letters (x.cps.toList.take i)).length ≤ (x.cps.toList.take i).length := List.length_filter_le _ _
                rw [List.length_take] at h1
                have h2 : (odd letters (x.cps.toList.take i)).length < 1000 := by
                  have : x.length = x.cps.size := rfl
                  omega
                exact Nat.lt_of_lt_of_le h2 (by decide)
              · rw [upd_ne (ne_of_none e hD)]
                exact sm b o e
              · rw [upd_same, tk, odd_out m, List.map_append]
                rfl
          · rintro H1 ⟨sm, hd⟩
            walk_at "hgo"
            intro p hp
            have all : x.cps.toList.take x.cps.size = x.cps.toList := by
              rw [hl]
              exact List.take_length
            rw [all] at hd
            have hd1 := look_past (o := .lst []) (ne_of_none hd hp) hd
            refine g_eqD (.lst (SqL.of hd1) (dp_signs _)) (.lst (SqL.of upd_same) .nil) (shapedSigns fun c hc => fit.all c (List.mem_filter.mp hc).1) (by decide +kernel) ?_
            rw [eqvSigns]
            walk_at "hgo"
            refine k _ ?_
            intro b o e
            rw [upd_ne (ne_of_none (sm b o e) hp)]
            exact sm b o e
    · walk_at "hgo"
      have e : okS x = false := by
        have z : ¬ 0 < x.length := by
          have := of_decide_eq_false (Bool.eq_false_iff.mpr c1)
          omega
        unfold okS
        rw [decide_eq_false z]
        simp
      rw [e] at k
      exact k H (Same.refl H)
theorem ok_law_is_number (V : VF K mg) : FnOk P w K mg base CX0 1 V.fLU V.dLU ["_law_digits"] spIsNumber := by
  refine V.F_law_is_number.ok sc_law_is_number (fun vs H Q E h => ?_) (fun cdv A outer s H vs Q E hr h => ?_)
  · obtain ⟨s, rfl, _⟩ := h
    rfl
  · obtain ⟨s0, rfl, hs, fit, k⟩ := h
    have T := V.t
    refine ⟨_, (pss_cons (ps_set (i := 1) sc_law_is_number.nd rfl (Or.inl rfl) (pe_ifExp (pt_cmpR op_eq (pe_slice sl_str (pv 0) po_none (po_some pe_int)) pe_str (nomark _)) (pe_slice sl_str (pv 0) (po_some pe_int) po_none) (pv 0)))
      (pss_cons (ps_if (PW.pt (pw_or (pt_not (pt_chain op_lt op_lt pe_int (pe_callB call_lenS (by rfl) T.len (by decide +kernel) (pa_cons (pv 1) pa_nil)) pe_int)) (pw_or1 (pt_cmpR op_eq (pe_ix ix_str (pv 1) pe_int (fun _ _ => rfl)) pe_str (nomark _))))) (pss_one (ps_ret pe_bl)) pss_nil)
      (pss_one (ps_ret (pe_cmpR (op_eqD (hr.units)) (pe_lc (own := [("_law_sign", 2)]) (g := gName 2) rfl sc_law_is_number.nd (pi_str (pv 1)) (blkOk_by (own := [("_law_sign", 2)]) (N := N_law_is_number) (sc := defScope s_law_is_number) (by decide +kernel)) (fun _ _ _ _ _ => pg_name (i := 2) sc_law_is_number.nd rfl (Or.inl rfl)) (fun _ _ _ _ _ => (pts_one (pt_cmpR op_notInS (pv 2) pe_str rfl))) (fun _ _ _ _ _ => (pv 2))) (pe_lst pa_nil) (nomark _)))))), ?_⟩
    try dsimp only [cxOf]
    have nB : numB s0 = ((decide (TL.tl (bareS s0) ≠ []) && decide ((TL.tl (bareS s0)).length ≤ 60)) && (decide ((TL.tl (bareS s0)).head? ≠ some 48) && (TL.tl (bareS s0)).all dig)) := by unfold numB; rw [bareS_tl]
    have fitB : Fit (bareS s0) := fun c hc => by
      rw [bareS_tl] at hc
      unfold bare at hc
      split at hc
      · exact fit c (List.mem_of_mem_tail hc)
      · exact fit c hc
    have lenB : (bareS s0).length ≤ 100000 := by
      rw [TL.len_tl, bareS_tl]
      rw [TL.len_tl] at hs
      unfold bare
      split
      · rw [List.length_tail]; omega
      · exact hs
    refine g_seq ?_
    walk_at "hx"
    refine g_slS (small_of (by omega)) ?_
    walk_at "hx"
    rw [cut1_minus]
    by_cases c : (TL.tl s0).head? = some 45
    · have eB : bareS s0 = cutS s0 (some 1) none := if_pos c
      rw [eB] at nB fitB lenB
      refine g_true (decide_eq_true c) ?_
      walk_at "hgo"
      refine g_slS (small_of (by omega)) ?_
      walk_at "hgo"
      generalize cutS s0 (some 1) none = B at nB fitB lenB ⊢
      refine g_lenS (small_of (by omega)) ?_
      walk_at "hgo"
      refine ite2 (fun c1 => ?_) (fun c1 => ?_)
      · walk_at "hgo"
        have z0 : 0 < B.length := by
          have := of_decide_eq_true c1
          omega
        have ne : TL.tl B ≠ [] := fun e => by rw [TL.len_tl, e] at z0; exact Nat.lt_irrefl _ z0
        refine ite2 (fun c2 => ?_) (fun c2 => ?_)
        · try refine g_true rfl ?_
          walk_at "hgo"
          have e : numB s0 = false := by
            have z : ¬ B.length < 61 := by
              simp at c2
              omega
            rw [nB, decide_eq_false (show ¬ (TL.tl B).length ≤ 60 by rw [← TL.len_tl]; omega)]
            simp
          rw [e] at k
          exact k H (Same.refl H)
        · walk_at "hgo"
          have z9 : B.length < 61 := by
            have : decide ((B.length : Int) < 61) = true := by simpa using c2
            have := of_decide_eq_true this
            omega
          obtain ⟨c0, r0, e0⟩ : ∃ c0 r0, TL.tl B = c0 :: r0 := by
            generalize TL.tl B = l at ne
            cases l with
            | nil => exact absurd rfl ne
            | cons a r => exact ⟨a, r, rfl⟩
          refine g_ixS (i := ((0 : Nat) : Int)) (c := c0) (small_of (by omega)) (atI_nat (show (TL.tl B)[0]? = some c0 by rw [e0]; rfl)) ?_
          walk_at "hgo"
          refine ite2 (fun c3 => ?_) (fun c3 => ?_)
          · walk_at "hgo"
            have q : (⟨#[c0]⟩ : Str) = Str.ofString "0" := L2.V.str.inj (of_decide_eq_true c3)
            have q2 : c0 = 48 := by
              have := congrArg TL.tl q
              rw [zero_tl] at this
              exact (List.cons.inj this).1
            have e : numB s0 = false := by
              rw [nB, e0, q2]
              simp
            rw [e] at k
            exact k H (Same.refl H)
          · walk_at "hgo"
            have q : c0 ≠ 48 := fun w => c3 (decide_eq_true (congrArg L2.V.str (by rw [w]; exact TL.ext_tl zero_tl.symm)))
            have e : numB s0 = decide (odd digitS B.cps.toList = []) := by
              rw [odd_nil, nB, decide_eq_true ne, decide_eq_true (show (TL.tl B).length ≤ 60 by rw [← TL.len_tl]; omega), e0]
              have h48 : decide ((c0 :: r0).head? ≠ some 48) = true := decide_eq_true (by rw [List.head?_cons]; exact fun w => q (Option.some.inj w))
              rw [h48]
              show (true && true && (true && (c0 :: r0).all dig)) = (TL.tl B).all _
              rw [e0]
              simp only [Bool.true_and, mem_digitS]
            rw [e] at k
            have hl : B.cps.size = B.cps.toList.length := (Array.length_toList).symm
            refine fun D hD => lc_it walk_str (fun i H' => Same H H' ∧ H' D = some (.lst ((odd digitS (B.cps.toList.take i)).map fun c => L2.V.str ⟨#[c]⟩))) ?_ (fun _ _ _ _ => trivial) ?_ ?_
            · refine ⟨fun b o e => ?_, ?_⟩
              · rw [upd_ne (ne_of_none e hD)]
                exact e
              · rw [upd_same]
                rfl
            · rintro i y H1 H2 hi ⟨sm, hd⟩ ⟨rfl, c, hc, rfl⟩
              walk_at "hgo"
              refine ⟨rfl, ?_⟩
              walk_at "hgo"
              have hc' : B.cps.toList[i]? = some c := by
                rw [Array.getElem?_toList]
                exact hc
              have tk : B.cps.toList.take (i + 1) = B.cps.toList.take i ++ [c] := by
                rw [List.take_add_one, hc']
                rfl
              show (if (!decide (c ∈ digitS.cps.toList)) = true then _ else _)
              by_cases m : c ∈ digitS.cps.toList
              · refine g_false (by simp [m]) ?_
                refine ⟨sm, ?_⟩
                rw [tk, hd, odd_in m]
              · refine g_true (by simp [m]) ?_
                walk_at "hgo"
                refine ⟨_, hd, ?_, fun b o e => ?_, ?_⟩
                · rw [List.length_map]
                  have h1 : (odd digitS (B.cps.toList.take i)).length ≤ (B.cps.toList.take i).length := List.length_filter_le _ _
                  rw [List.length_take] at h1
                  have h2 : (odd digitS (B.cps.toList.take i)).length < 1000 := by
                    have : B.length = B.cps.size := rfl
                    omega
                  exact Nat.lt_of_lt_of_le h2 (by decide)
                · rw [upd_ne (ne_of_none e hD)]
                  exact sm b o e
                · rw [upd_same, tk, odd_out m, List.map_append]
                  rfl
            · rintro H1 ⟨sm, hd⟩
              walk_at "hgo"
              intro p hp
              have all : B.cps.toList.take B.cps.size = B.cps.toList := by
                rw [hl]
                exact List.take_length
              rw [all] at hd
              have hd1 := look_past (o := .lst []) (ne_of_none hd hp) hd
              refine g_eqD (.lst (SqL.of hd1) (dp_signs _)) (.lst (SqL.of upd_same) .nil) (shapedSigns fun c hc => fitB.all c (List.mem_filter.mp hc).1) (by decide +kernel) ?_
              rw [eqvSigns]
              walk_at "hgo"
              refine k _ ?_
              intro b o e
              rw [upd_ne (ne_of_none (sm b o e) hp)]
              exact sm b o e
      · walk_at "hgo"
        have e : numB s0 = false := by
          have z : ¬ 0 < B.length := by
            have := of_decide_eq_false (Bool.eq_false_iff.mpr c1)
            omega
          have z1 : TL.tl B = [] := List.length_eq_zero_iff.mp (by rw [← TL.len_tl]; omega)
          rw [nB, z1]
          simp
        rw [e] at k
        exact k H (Same.refl H)
    · have eB : bareS s0 = s0 := if_neg c
      rw [eB] at nB fitB lenB
      refine g_false (decide_eq_false c) ?_
      walk_at "hgo"
      refine g_lenS (small_of (by omega)) ?_
      walk_at "hgo"
      refine ite2 (fun c1 => ?_) (fun c1 => ?_)
      · walk_at "hgo"
        have z0 : 0 < s0.length := by
          have := of_decide_eq_true c1
          omega
        have ne : TL.tl s0 ≠ [] := fun e => by rw [TL.len_tl, e] at z0; exact Nat.lt_irrefl _ z0
        refine ite2 (fun c2 => ?_) (fun c2 => ?_)
        · try refine g_true rfl ?_
          walk_at "hgo"
          have e : numB s0 = false := by
            have z : ¬ s0.length < 61 := by
              simp at c2
              omega
            rw [nB, decide_eq_false (show ¬ (TL.tl s0).length ≤ 60 by rw [← TL.len_tl]; omega)]
            simp
          rw [e] at k
          exact k H (Same.refl H)
        · walk_at "hgo"
          have z9 : s0.length < 61 := by
            have : decide ((s0.length : Int) < 61) = true := by simpa using c2
            have := of_decide_eq_true this
            omega
          obtain ⟨c0, r0, e0⟩ : ∃ c0 r0, TL.tl s0 = c0 :: r0 := by
            generalize TL.tl s0 = l at ne
            cases l with
            | nil => exact absurd rfl ne
            | cons a r => exact ⟨a, r, rfl⟩
          refine g_ixS (i := ((0 : Nat) : Int)) (c := c0) (small_of (by omega)) (atI_nat (show (TL.tl s0)[0]? = some c0 by rw [e0]; rfl)) ?_
          walk_at "hgo"
          refine ite2 (fun c3 => ?_) (fun c3 => ?_)
          · walk_at "hgo"
            have q : (⟨#[c0]⟩ : Str) = Str.ofString "0" := L2.V.str.inj (of_decide_eq_true c3)
            have q2 : c0 = 48 := by
              have := congrArg TL.tl q
              rw [zero_tl] at this
              exact (List.cons.inj this).1
            have e : numB s0 = false := by
              rw [nB, e0, q2]
              simp
            rw [e] at k
            exact k H (Same.refl H)
          · walk_at "hgo"
            have q : c0 ≠ 48 := fun w => c3 (decide_eq_true (congrArg L2.V.str (by rw [w]; exact TL.ext_tl zero_tl.symm)))
            have e : numB s0 = decide (odd digitS s0.cps.toList = []) := by
              rw [odd_nil, nB, decide_eq_true ne, decide_eq_true (show (TL.tl s0).length ≤ 60 by rw [← TL.len_tl]; omega), e0]
              have h48 : decide ((c0 :: r0).head? ≠ some 48) = true := decide_eq_true (by rw [List.head?_cons]; exact fun w => q (Option.some.inj w))
              rw [h48]
              show (true && true && (true && (c0 :: r0).all dig)) = (TL.tl s0).all _
              rw [e0]
              simp only [Bool.true_and, mem_digitS]
            rw [e] at k
            have hl : s0.cps.size = s0.cps.toList.length := (Array.length_toList).symm
            refine fun D hD => lc_it walk_str (fun i H' => Same H H' ∧ H' D = some (.lst ((odd digitS (s0.cps.toList.take i)).map fun c => L2.V.str ⟨#[c]⟩))) ?_ (fun _ _ _ _ => trivial) ?_ ?_
            · refine ⟨fun b o e => ?_, ?_⟩
              · rw [upd_ne (ne_of_none e hD)]
                exact e
              · rw [upd_same]
                rfl
            · rintro i y H1 H2 hi ⟨sm, hd⟩ ⟨rfl, c, hc, rfl⟩
              walk_at "hgo"
              refine ⟨rfl, ?_⟩
              walk_at "hgo"
              have hc' : s0.cps.toList[i]? = some c := by
                rw [Array.getElem?_toList]
                exact hc
              have tk : s0.cps.toList.take (i + 1) = s0.cps.toList.take i ++ [c] := by
                rw [List.take_add_one, hc']
                rfl
              show (if (!decide (c ∈ digitS.cps.toList)) = true then _ else _)
              by_cases m : c ∈ digitS.cps.toList
              · refine g_false (by simp [m]) ?_
                refine ⟨sm, ?_⟩
                rw [tk, hd, odd_in m]
              · refine g_true (by simp [m]) ?_
                walk_at "hgo"
                refine ⟨_, hd, ?_, fun b o e => ?_, ?_⟩
                · rw [List.length_map]
                  have h1 : (odd digitS (s0.cps.toList.take i)).length ≤ (s0.cps.toList.take i).length := List.length_filter_le _ _
                  rw [List.length_take] at h1
                  have h2 : (odd digitS (s0.cps.toList.take i)).length < 1000 := by
                    have : s0.length = s0.cps.size := rfl
                    omega
                  exact Nat.lt_of_lt_of_le h2 (by decide)
                · rw [upd_ne (ne_of_none e hD)]
                  exact sm b o e
                · rw [upd_same, tk, odd_out m, List.map_append]
                  rfl
            · rintro H1 ⟨sm, hd⟩
              walk_at "hgo"
              intro p hp
              have all : s0.cps.toList.take s0.cps.size = s0.cps.toList := by
                rw [hl]
                exact List.take_length
              rw [all] at hd
              have hd1 := look_past (o := .lst []) (ne_of_none hd hp) hd
              refine g_eqD (.lst (SqL.of hd1) (dp_signs _)) (.lst (SqL.of upd_same) .nil) (shapedSigns fun c hc => fitB.all c (List.mem_filter.mp hc).1) (by decide +kernel) ?_
              rw [eqvSigns]
              walk_at "hgo"
              refine k _ ?_
              intro b o e
              rw [upd_ne (ne_of_none (sm b o e) hp)]
              exact sm b o e
      · walk_at "hgo"
        have e : numB s0 = false := by
          have z : ¬ 0 < s0.length := by
            have := of_decide_eq_false (Bool.eq_false_iff.mpr c1)
            omega
          have z1 : TL.tl s0 = [] := List.length_eq_zero_iff.mp (by rw [← TL.len_tl]; omega)
          rw [nB, z1]
          simp
        rw [e] at k
        exact k H (Same.refl H)
end

/-- rows (name, number) -/
inductive Cells (H : Hp) : List Addr → IL → Prop
  | nil : Cells H [] []
  | cons {t : Addr} {ts : List Addr} {p : Str × Int} {r : IL} : H t = some (.tup [.str p.1, .int p.2]) → Cells H ts r → Cells H (t :: ts) (p :: r)
theorem Cells.same {H H' : Hp} (s : Same H H') : ∀ {ts : List Addr} {r : IL}, Cells H ts r → Cells H' ts r
  | _, _, .nil => .nil
  | _, _, .cons h t => .cons (s _ _ h) (t.same s)
theorem Cells.snoc {H : Hp} {t : Addr} {p : Str × Int} (h : H t = some (.tup [.str p.1, .int p.2])) : ∀ {ts : List Addr} {r : IL}, Cells H ts r → Cells H (ts ++ [t]) (r ++ [p])
  | _, _, .nil => .cons h .nil
  | _, _, .cons h1 t1 => .cons h1 (t1.snoc h)
theorem Cells.len {H : Hp} : ∀ {ts : List Addr} {r : IL}, Cells H ts r → ts.length = r.length
  | _, _, .nil => rfl
  | _, _, .cons _ t => congrArg (· + 1) t.len
structure Rows (H : Hp) (p : Addr) (r : IL) : Prop where
  ex : ∃ ts : List Addr, H p = some (.lst (ts.map L2.V.ref)) ∧ Cells H ts r
theorem Rows.same {H H' : Hp} {p : Addr} {r : IL} (h : Rows H p r) (s : Same H H') : Rows H' p r := by
  obtain ⟨ts, h1, h2⟩ := h
  exact ⟨ts, s _ _ h1, h2.same s⟩
def pd (r : IL) : PyData := .list (r.map fun p => .tuple [.str p.1, .int p.2])
theorem cells_dp {K : PySem.W.Frag} {H : Hp} : ∀ {ts : List Addr} {r : IL}, Cells H ts r → DpAll K H (ts.map L2.V.ref) (r.map fun p => .tuple [.str p.1, .int p.2])
  | _, _, .nil => .nil
  | _, _, .cons h t => .cons (.tup (SqT.of h) (.cons (.str _) (.cons (.int _) .nil))) (cells_dp t)
theorem Rows.dp {K : PySem.W.Frag} {H : Hp} {p : Addr} {r : IL} (h : Rows H p r) : Dp K H (.ref p) (pd r) := by
  obtain ⟨ts, h1, h2⟩ := h
  exact .lst (SqL.of h1) (cells_dp h2)
theorem g_prop {C : Addr} {sp : Sp} {dvs : List L2.V} {E : XK} {ta : TE} {σ : L2.St} {H : Hp} {Q : VK} (h : ta σ H fun x H1 => ∃ a dx fs, x = .ref a ∧ H1 a = some (.ins C dx fs) ∧ sp (.ref a :: dvs) H1 Q E) : tProp C sp dvs E ta σ H Q := h
theorem Cells.past {H : Hp} {D : Addr} {xs : List L2.V} {u : HO} (hD : H D = some (.lst xs)) : ∀ {ts : List Addr} {r : IL}, Cells H ts r → Cells (upd H D u) ts r
  | _, _, .nil => .nil
  | _, _, .cons h t => .cons (by rw [upd_ne (fun e => by rw [e, hD] at h; cases h)]; exact h) (t.past hD)

theorem g_par3 {i j l : Nat} {ta : TA} {D : Ends} {σ : L2.St} {H : Hp} (h : ta σ H fun vs H1 => ∃ u v w, vs = [u, v, w] ∧ D.nx (((σ.set i (some u)).set j (some v)).set l (some w)) H1) : tPar3 i j l ta D σ H := h
theorem g_enum {K : PySem.W.Frag} {ta : TA} {σ : L2.St} {H : Hp} {R : It → Hp → Prop} (h : ta σ H fun vs H1 => ∃ a xs, vs = [.ref a] ∧ SqL K H1 a xs ∧ R (Ite K a) H1) : iEnum K ta σ H R := h
theorem cut2 (x y : L2.V) (r : List L2.V) : cutV (x :: y :: r) none (some 2) = [x, y] := by
  unfold cutV
  show ((x :: y :: r).drop 0).take (min 2 (x :: y :: r).length - 0) = _
  rw [List.length_cons, List.length_cons, Nat.min_eq_left (by omega)]
  rfl
/-- the label and the rest that the law looks at -/
def restOf : List Str → Str
  | [] => Str.ofString ""
  | b :: _ => b
theorem cut_parts (a : Str) (r : List Str) : cutV ((a :: r).map L2.V.str ++ [.str (Str.ofString "")]) none (some 2) = [.str a, .str (restOf r)] := by
  cases r with
  | nil => exact cut2 _ _ []
  | cons b c => exact cut2 _ _ _
theorem parts_cons (w : Str) : ∃ a r, parts w = a :: r := by
  have l := parts_len w
  cases e : parts w with
  | nil => rw [e] at l; cases l
  | cons a r => exact ⟨a, r, rfl⟩
def spDue : Sp := fun vs H Q _ => ∃ t, vs = [.str t] ∧ t.length ≤ 90000 ∧ Fit t ∧ (wordsOf t).length ≤ 60 ∧ (∀ i H', due t = .inl i → Same H H' → Q (.int (i : Nat)) H') ∧ ∀ l p H', due t = .inr l → H p = none → Same H H' → Rows H' p l → Q (.ref p) H'
structure Du1 (ws : List Str) (W F : Addr) (H : Hp) (i : Nat) (l : IL) (ts : List Addr) (H' : Hp) : Prop where
  asc : Asc l
  len : l.length = i
  sc : scan ws 0 [] = scan (ws.drop i) i l
  wd : H' W = some (.lst (ws.map L2.V.str))
  fd : H' F = some (.lst (ts.map L2.V.ref))
  cl : Cells H' ts l
  same : Same H H'
section
variable {P : Program} {w : World} {K : PySem.W.Frag} {mg : Str → Option Value} {base : Heap}
set_option maxHeartbeats 8000000 in
theorem ok_law_due (V : VF K mg) : FnOk P w K mg base CX0 2 V.fLE V.dLE ["_law_text_so"] spDue := by
  have G_law_is_name := ok_law_is_name (P := P) (w := w) (base := base) V
  have G_law_is_number := ok_law_is_number (P := P) (w := w) (base := base) V
  refine V.F_law_due.ok sc_law_due (fun vs H Q E h => ?_) (fun cdv A outer s H vs Q E hr h => ?_)
  · obtain ⟨t, rfl, _⟩ := h
    rfl
  · obtain ⟨t, rfl, ht, fit, few, k1, k2⟩ := h
    have hu := hu_of hr
    have T := V.t
    refine ⟨_, (pss_cons (ps_par3 (i := 1) (j := 2) (l := 3) (by rfl) sc_law_due.nd rfl rfl rfl (by decide) (by decide) (by decide) rfl rfl rfl (pa_cons (pe_bm PySem.F.plainAttrs_str PySem.F.slot_str_split PySem.F.type_str_split mt_split (pv 0) (pa_cons pe_str pa_nil)) (pa_cons (pe_lst pa_nil) (pa_cons pe_str pa_nil))) (by rfl))
      (pss_cons (ps_if (pt_cmpR op_eq (pe_ix ix_list (pv 1) pe_int (fun _ _ => rfl)) pe_str (nomark _)) (pss_one (ps_ret (pe_ifExp (pt_cmpR op_gt (pe_callB call_lenL (by rfl) T.len (by decide +kernel) (pa_cons (pv 1) pa_nil)) pe_int (nomark _)) pe_int (pe_lst pa_nil)))) pss_nil)
      (pss_cons (ps_for PassesOwn.never rfl (pi_enum (by rfl) V.u.enumerate (pa_cons (pv 1) pa_nil)) (pg_tup rfl (pgs_cons (pg_name (i := 4) sc_law_due.nd rfl (Or.inl rfl)) (pgs_cons (pg_name (i := 5) sc_law_due.nd rfl (Or.inl rfl)) pgs_nil))) (pss_cons (ps_asg (pe_slice sl_list (pe_op op_cat (pe_bm PySem.F.plainAttrs_str PySem.F.slot_str_split PySem.F.type_str_split mt_split (pv 5) (pa_cons pe_str pa_nil)) (pe_lst (pa_cons pe_str pa_nil))) po_none (po_some pe_int)) (pg_lst rfl (pgs_cons (pg_name (i := 6) sc_law_due.nd rfl (Or.inl rfl)) (pgs_cons (pg_name (i := 7) sc_law_due.nd rfl (Or.inl rfl)) pgs_nil))))
      (pss_cons (ps_if (PW.pt (pw_or (pt_cmpR op_ne (pe_bm PySem.F.plainAttrs_str PySem.F.slot_str_count PySem.F.type_str_count mt_count (pv 5) (pa_cons pe_str pa_nil)) pe_int (nomark _)) (pw_or (pt_not (pt_val (pe_call G_law_is_name (hr.mono (by decide)) (by rfl) V.g_law_is_name V.F_law_is_name.kp V.b_law_is_name .nil pass0 (pa_cons (pv 6) pa_nil)))) (pw_or (pt_not (pt_val (pe_call G_law_is_number (hr.mono (by decide)) (by rfl) V.g_law_is_number V.F_law_is_number.kp V.b_law_is_number .nil pass0 (pa_cons (pv 7) pa_nil)))) (pw_or1 (pt_not (pt_cmpR op_lt_str (pv 3) (pv 6) (nomark _)))))))) (pss_one (ps_ret (pv 4))) pss_nil)
      (pss_cons (ps_set (i := 3) sc_law_due.nd rfl (Or.inl rfl) (pv 6))
      (pss_one (ps_expr (pe_bm PySem.F.plainAttrs_list PySem.F.slot_list_append PySem.F.type_list_append mt_append (pv 2) (pa_cons (pe_tup (pa_cons (pv 6) (pa_cons (pe_callTy call_int_str (by rfl) T.int (by decide +kernel) (pa_cons (pv 7) pa_nil)) pa_nil))) pa_nil))))))))
      (pss_one (ps_ret (pv 2)))))), ?_⟩
    try dsimp only [cxOf]
    rw [show L2.start N_law_due [.str t] = [some (.str t), none, none, none, none, none, none, none] from rfl]
    refine g_seq ?_
    refine g_par3 ?_
    walk_at "hx"
    refine g_bm ?_
    walk_at "hx"
    refine ⟨t, _, rfl, rfl, len1S, Nat.le_trans (show t.length + 2 ≤ 200000 by omega) (by decide), ?_⟩
    intro W hW
    walk_at "hx"
    intro F hF
    walk_at "hx"
    refine ⟨_, _, _, rfl, ?_⟩
    dsimp only [List.set]
    have nFW : F ≠ W := fun e => by rw [e, upd_same] at hF; cases hF
    have hF0 : H F = none := by rw [upd_ne nFW] at hF; exact hF
    have S0 : Same H (upd (upd H W (.lst ((Txt.split t (Str.ofString " ")).map L2.V.str))) F (.lst [])) := same_trans (same_new hW) (same_new hF)
    have w0 : upd (upd H W (.lst ((Txt.split t (Str.ofString " ")).map L2.V.str))) F (.lst []) W = some (.lst ((wordsOf t).map L2.V.str)) := by rw [upd_ne nFW.symm]; exact upd_same
    have f0 : upd (upd H W (.lst ((Txt.split t (Str.ofString " ")).map L2.V.str))) F (.lst []) F = some (.lst []) := upd_same
    generalize upd (upd H W (.lst ((Txt.split t (Str.ofString " ")).map L2.V.str))) F (.lst []) = H0 at S0 w0 f0 ⊢
    rw [due_is] at k1 k2
    have fw : ∀ x ∈ wordsOf t, Fit x ∧ x.length ≤ 90000 := fun x hx => ⟨fit_words fit hx, Nat.le_trans (words_mem hx) ht⟩
    have wl := words_len t
    generalize wordsOf t = ws at k1 k2 few fw wl w0
    obtain ⟨x0, r0, rfl⟩ : ∃ x0 r0, ws = x0 :: r0 := by
      cases ws with
      | nil => cases wl
      | cons a b => exact ⟨a, b, rfl⟩
    clear wl
    walk_at "hx"
    refine g_seq ?_
    walk_at "hx"
    refine g_ixL (i := ((0 : Nat) : Int)) (SqL.of w0) (atI_nat (show ((x0 :: r0).map L2.V.str)[0]? = some (.str x0) from rfl)) ?_
    walk_at "hx"
    by_cases c0 : x0 = Str.ofString "0"
    · refine g_true (by simp [c0]) ?_
      walk_at "hx"
      by_cases c1 : r0 = []
      · refine g_false (by rw [c1]; rfl) ?_
        walk_at "hx"
        intro p hp
        have du : dueW (x0 :: r0) = .inr [] := by
          show (if x0 = Str.ofString "0" then (if r0 = [] then Sum.inr [] else Sum.inl 1) else scan (x0 :: r0) 0 []) = _
          rw [if_pos c0, if_pos c1]
        exact k2 [] p _ du (none_back S0 hp) (same_trans S0 (same_new hp)) ⟨[], upd_same, .nil⟩
      · refine g_true ?_ ?_
        · cases r0 with
          | nil => exact absurd rfl c1
          | cons b c => exact decide_eq_true (by simp; omega)
        walk_at "hx"
        have du : dueW (x0 :: r0) = .inl 1 := by
          show (if x0 = Str.ofString "0" then (if r0 = [] then Sum.inr [] else Sum.inl 1) else scan (x0 :: r0) 0 []) = _
          rw [if_pos c0, if_neg c1]
        exact k1 1 _ du S0
    · refine g_false (by simp [c0]) ?_
      have du : dueW (x0 :: r0) = scan (x0 :: r0) 0 [] := if_neg c0
      rw [du] at k1 k2
      generalize x0 :: r0 = ws at k1 k2 few fw w0
      clear c0 du
      walk_at "hx"
      refine g_seq ?_
      walk_at "hx"
      refine g_enum ?_
      walk_at "hx"
      refine ⟨W, _, rfl, SqL.of w0, ?_⟩
      refine for_it (walk_enum (K := K) (a := W) (xs := ws.map L2.V.str)) (fun i σ' H' => ∃ l ts, (∃ y4 y5 y6 y7, σ' = [some (.str t), some (.ref W), some (.ref F), some (.str (lastI l)), y4, y5, y6, y7]) ∧ Du1 ws W F H i l ts H') ?_ (fun i σ' H' _ h => by obtain ⟨l, ts, _, D⟩ := h; exact SqL.of D.wd) ?_ ?_
      · exact ⟨[], [], ⟨none, none, none, none, rfl⟩, asc_nil, rfl, rfl, w0, f0, .nil, S0⟩
      · rintro i v σ' H1 H2 hi ⟨l, ts, ⟨y4, y5, y6, y7, rfl⟩, D⟩ ⟨TT, x, y, rfl, hT, rfl, ex, ey⟩
        cases ex
        rw [List.length_map] at hi
        obtain ⟨x, hx, rfl⟩ := str_at ey
        obtain ⟨fx, lx⟩ := fw x (List.mem_of_getElem? hx)
        refine ⟨TT, _, rfl, SqT.of upd_same, rfl, ?_⟩
        have S2 := same_new (o := .tup [L2.V.int (i : Nat), L2.V.str x]) hT
        generalize upd H1 TT (.tup [L2.V.int (i : Nat), L2.V.str x]) = H2 at S2 ⊢
        refine ⟨_, _, rfl, ?_⟩
        refine g_name ?_
        refine ⟨_, _, rfl, ?_⟩
        refine g_name ?_
        refine ⟨rfl, ?_⟩
        dsimp only [List.set]
        obtain ⟨a, r, hp⟩ := parts_cons x
        refine g_seq ?_
        walk_at "hx"
        refine g_bm ?_
        walk_at "hx"
        refine ⟨x, _, rfl, rfl, len1E, Nat.le_trans (show x.length + 2 ≤ 200000 by omega) (by decide), ?_⟩
        intro p1 hp1
        rw [show Txt.split x (Str.ofString "=") = a :: r from hp]
        have S3 := same_trans S2 (same_new (o := .lst ((a :: r).map L2.V.str)) hp1)
        have e3 : upd H2 p1 (.lst ((a :: r).map L2.V.str)) p1 = some (.lst ((a :: r).map L2.V.str)) := upd_same
        generalize upd H2 p1 (.lst ((a :: r).map L2.V.str)) = H3 at S3 e3 ⊢
        walk_at "hx"
        intro p2 hp2
        have S4 := same_trans S3 (same_new (o := .lst [L2.V.str (Str.ofString "")]) hp2)
        have e4 := same_new (o := .lst [L2.V.str (Str.ofString "")]) hp2 _ _ e3
        have e4' : upd H3 p2 (.lst [L2.V.str (Str.ofString "")]) p2 = some (.lst [L2.V.str (Str.ofString "")]) := upd_same
        generalize upd H3 p2 (.lst [L2.V.str (Str.ofString "")]) = H4 at S4 e4 e4' ⊢
        walk_at "hx"
        have lp := parts_len x
        rw [hp] at lp
        have cx : (TL.tl x).count 61 ≤ x.length := by rw [TL.len_tl]; exact List.count_le_length
        refine g_cat e4 e4' (by rw [List.length_map]; exact Nat.le_trans (show _ ≤ 200000 by rw [lp, List.length_singleton]; omega) (by decide)) ?_
        intro p3 hp3
        have S5 := same_trans S4 (same_new (o := .lst ((a :: r).map L2.V.str ++ [L2.V.str (Str.ofString "")])) hp3)
        have e5 : upd H4 p3 (.lst ((a :: r).map L2.V.str ++ [L2.V.str (Str.ofString "")])) p3 = some (.lst ((a :: r).map L2.V.str ++ [L2.V.str (Str.ofString "")])) := upd_same
        generalize upd H4 p3 (.lst ((a :: r).map L2.V.str ++ [L2.V.str (Str.ofString "")])) = H5 at S5 e5 ⊢
        walk_at "hx"
        refine g_slL (SqL.of e5) ?_
        intro p4 hp4
        rw [cut_parts]
        have S6 := same_trans S5 (same_new (o := .lst [L2.V.str a, L2.V.str (restOf r)]) hp4)
        refine ⟨p4, _, rfl, SqL.of upd_same, rfl, ?_⟩
        generalize upd H5 p4 (.lst [L2.V.str a, L2.V.str (restOf r)]) = H6 at S6 ⊢
        refine ⟨_, _, rfl, ?_⟩
        refine g_name ?_
        refine ⟨_, _, rfl, ?_⟩
        refine g_name ?_
        refine ⟨rfl, ?_⟩
        dsimp only [List.set]
        clear hp1 hp2 hp3 hp4 e3 e4 e4' e5 S2 S3 S4 S5
        have am : a ∈ parts x := by rw [hp]; exact List.mem_cons_self
        have fa := fit_parts fx am
        have la := (parts_mem am).1
        have fb : Fit (restOf r) ∧ (restOf r).length ≤ 90000 := by
          cases r with
          | nil => exact ⟨fit_empty, by decide +kernel⟩
          | cons b c =>
            have bm : b ∈ parts x := by rw [hp]; exact List.mem_cons_of_mem _ List.mem_cons_self
            exact ⟨fit_parts fx bm, Nat.le_trans (parts_mem bm).1 lx⟩
        refine g_seq ?_
        walk_at "hx"
        refine g_bm ?_
        walk_at "hx"
        refine ⟨x, _, rfl, rfl, ?_⟩
        rw [count_is, hp]
        walk_at "hx"
        have bad : good (lastI l) x = none → ∀ H', Same H1 H' → Q (.int (i : Nat)) H' := fun g H' s' => k1 i H' (scan_stop hx D.sc g) (same_trans D.same s')
        by_cases two : r.length = 1
        · obtain ⟨b, rfl⟩ : ∃ b, r = [b] := by
            cases r with
            | nil => cases two
            | cons b c =>
              cases c with
              | nil => exact ⟨b, rfl⟩
              | cons d e => simp at two
          have g2 := good_two (last := lastI l) hp
          rw [show restOf [b] = b from rfl] at fb ⊢
          refine g_false (by simp) ?_
          walk_at "hx"
          refine ⟨a, rfl, by omega, fa, ?_⟩
          intro H7 s7
          have S7 := same_trans S6 s7
          walk_at "hx"
          cases q1 : okS a with
          | false =>
            rw [q1, if_neg (fun z => Bool.noConfusion z.1)] at g2
            walk_at "hx"
            exact bad g2 H7 S7
          | true =>
            walk_at "hx"
            refine ⟨b, rfl, by omega, fb.1, ?_⟩
            intro H8 s8
            have S8 := same_trans S7 s8
            walk_at "hx"
            cases q2 : numB b with
            | false =>
              rw [q2, if_neg (fun z => Bool.noConfusion z.2.2)] at g2
              walk_at "hx"
              exact bad g2 H8 S8
            | true =>
              walk_at "hx"
              refine ⟨_, _, rfl, rfl, ?_⟩
              walk_at "hx"
              by_cases q3 : lt (lastI l) a
              · rw [q1, q2, if_pos ⟨rfl, q3, rfl⟩] at g2
                refine g_false (by rw [show decide ((lastI l).cps.toList < a.cps.toList) = true from decide_eq_true q3]; rfl) ?_
                walk_at "hx"
                refine g_seq ?_
                walk_at "hx"
                obtain ⟨ei, nz, bd, lb⟩ := num_int q2
                refine g_bm ?_
                walk_at "hx"
                have fd8 := S8 _ _ D.fd
                refine ⟨.inl ⟨rfl, _, SqL.of fd8⟩, ?_⟩
                walk_at "hx"
                refine ⟨b, numV b, rfl, ei, by omega, ?_⟩
                walk_at "hx"
                intro tp htp
                have S9 := same_new (o := .tup [L2.V.str a, L2.V.int (numV b)]) htp
                have e9 : upd H8 tp (.tup [L2.V.str a, L2.V.int (numV b)]) tp = some (.tup [L2.V.str a, L2.V.int (numV b)]) := upd_same
                generalize upd H8 tp (.tup [L2.V.str a, L2.V.int (numV b)]) = H9 at S9 e9 ⊢
                have fd9 := S9 _ _ fd8
                have cl9 := (D.cl.same S8).same S9
                have wd9 := S9 _ _ (S8 _ _ D.wd)
                have tl9 : ts.length = l.length := D.cl.len
                have ll := D.len
                walk_at "hx"
                refine ⟨F, _, _, rfl, rfl, fd9, ?_, ?_⟩
                · rw [List.length_map, tl9]
                  exact Nat.lt_of_lt_of_le (show l.length < 1000 by omega) (by decide)
                walk_at "hx"
                refine ⟨l ++ [(a, numV b)], ts ++ [tp], ⟨_, _, _, _, by rw [lastI_snoc]; rfl⟩, D.asc.snoc g2, ?_, scan_next hx D.sc g2, ?_, ?_, ?_, ?_⟩
                · rw [List.length_append, ll]; rfl
                · rw [upd_ne nFW.symm]; exact wd9
                · rw [upd_same, List.map_append]; rfl
                · exact Cells.past fd9 (cl9.snoc (p := (a, numV b)) e9)
                · intro c o e
                  rw [upd_ne (ne_of_none e hF0)]
                  exact S9 _ _ (S8 _ _ (D.same _ _ e))
              · rw [q1, q2, if_neg (fun z => q3 z.2.1)] at g2
                refine g_true (by rw [show decide ((lastI l).cps.toList < a.cps.toList) = false from decide_eq_false q3]; rfl) ?_
                walk_at "hx"
                exact bad g2 H8 S8
        · have g2 : good (lastI l) x = none := good_not (by rw [hp, List.length_cons]; omega)
          refine g_true ?_ ?_
          · have : ¬ (L2.V.int (((a :: r).length : Int) - 1) = L2.V.int 1) := fun z => by
              have := L2.V.int.inj z
              rw [List.length_cons] at this
              omega
            rw [decide_eq_false this]; rfl
          walk_at "hx"
          exact bad g2 H6 S6
      · rintro σ' H2 ⟨l, ts, ⟨y4, y5, y6, y7, rfl⟩, D⟩
        walk_at "hgo"
        have sc := D.sc
        rw [List.length_map] at sc
        exact k2 l F H2 (scan_done sc) hF0 D.same ⟨ts, D.fd, D.cl⟩
end

/-- a word that was bent n times at most -/
structure WordOk (n : Nat) (w : Str) : Prop where
  len : w.length ≤ 100 + 100 * n
  sp : (TL.tl w).count 32 ≤ n
  fit : Fit w
theorem WordOk.more {n : Nat} {w : Str} (h : WordOk n w) : WordOk (n + 1) w := ⟨by have := h.len; omega, by have := h.sp; omega, h.fit⟩
theorem WordOk.part {n : Nat} {w a : Str} (h : WordOk n w) (m : a ∈ parts w) : WordOk n a := by
  have z := parts_mem m
  exact ⟨Nat.le_trans z.1 h.len, Nat.le_trans (z.2 32) h.sp, fit_parts h.fit m⟩
/-- a piece that may be put in -/
structure PieceOk (w : Str) : Prop where
  len : w.length ≤ 70
  sp : (TL.tl w).count 32 ≤ 1
  fit : Fit w
def pieceB (w : Str) : Bool := decide (w.length ≤ 65) && (decide ((TL.tl w).count 32 ≤ 1) && (TL.tl w).all fun c => decide (c < 128))
theorem piece_of {w : Str} (h : pieceB w = true) : PieceOk w := by
  unfold pieceB at h
  simp only [Bool.and_eq_true, decide_eq_true_eq, List.all_eq_true] at h
  exact ⟨by have := h.1; omega, h.2.1, h.2.2⟩
theorem strLen_add (a b : Str) : (a ++ b).length = a.length + b.length := by rw [TL.len_tl, TL.len_tl, TL.len_tl, TL.tl_append, List.length_append]
theorem WordOk.add {n : Nat} {w p : Str} (h : WordOk n w) (g : PieceOk p) : WordOk (n + 1) (w ++ p) := by
  refine ⟨?_, ?_, fun c hc => ?_⟩
  · rw [strLen_add]
    have := h.len
    have := g.len
    omega
  · rw [TL.tl_append, List.count_append]
    have := h.sp
    have := g.sp
    omega
  · rw [TL.tl_append] at hc
    rcases List.mem_append.mp hc with z | z
    · exact h.fit c z
    · exact g.fit c z
theorem PieceOk.add {n : Nat} {w p : Str} (h : WordOk n w) (g : PieceOk p) : WordOk (n + 1) (p ++ w) := by
  refine ⟨?_, ?_, fun c hc => ?_⟩
  · rw [strLen_add]
    have := h.len
    have := g.len
    omega
  · rw [TL.tl_append, List.count_append]
    have := h.sp
    have := g.sp
    omega
  · rw [TL.tl_append] at hc
    rcases List.mem_append.mp hc with z | z
    · exact g.fit c z
    · exact h.fit c z
theorem PieceOk.word {w : Str} {n : Nat} (h : PieceOk w) : WordOk (n + 1) w := ⟨by have := h.len; omega, by have := h.sp; omega, h.fit⟩
theorem WordOk.cut {n : Nat} {w : Str} (h : WordOk n w) (lo hi : Option Int) : WordOk n (cutS w lo hi) := by
  have sub : (TL.tl (cutS w lo hi)).Sublist (TL.tl w) := by
    show (((TL.tl w).drop _).take _).Sublist (TL.tl w)
    exact (List.take_sublist _ _).trans (List.drop_sublist _ _)
  refine ⟨?_, Nat.le_trans (sub.count_le 32) h.sp, fun c hc => h.fit c (sub.subset hc)⟩
  have := sub.length_le
  have l := h.len
  rw [TL.len_tl] at l
  rw [TL.len_tl]
  omega
theorem piece_eq {w : Str} (h : pieceB w = true) : PieceOk (Str.ofString "=" ++ w) := by
  have g := h
  unfold pieceB at g
  simp only [Bool.and_eq_true, decide_eq_true_eq, List.all_eq_true] at g
  refine ⟨?_, ?_, fun c hc => ?_⟩
  · rw [strLen_add, show (Str.ofString "=").length = 1 by decide +kernel]
    omega
  · rw [TL.tl_append, List.count_append, equal_tl]
    have : List.count 32 [61] = 0 := by decide
    omega
  · rw [TL.tl_append, equal_tl] at hc
    rcases List.mem_append.mp hc with z | z
    · rw [List.mem_singleton.mp z]; decide
    · exact g.2.2 c z
theorem str_assoc (a b c : Str) : a ++ b ++ c = a ++ (b ++ c) := TL.ext_tl (by rw [TL.tl_append, TL.tl_append, TL.tl_append, TL.tl_append, List.append_assoc])
theorem ins_map {α β : Type} (f : α → β) (ws : List α) (y : α) (i : Nat) : (ws.map f).take i ++ [f y] ++ (ws.map f).drop i = (ws.take i ++ [y] ++ ws.drop i).map f := by
  rw [List.map_append, List.map_append, List.map_take, List.map_drop]
  rfl
theorem ins_len {α : Type} (ws : List α) (y : α) (i : Nat) : (ws.take i ++ [y] ++ ws.drop i).length = ws.length + 1 := by
  rw [List.length_append, List.length_append, List.length_take, List.length_drop, List.length_singleton]
  omega
theorem ins_mem {α : Type} {ws : List α} {y z : α} {i : Nat} (h : z ∈ ws.take i ++ [y] ++ ws.drop i) : z ∈ ws ∨ z = y := by
  rcases List.mem_append.mp h with h | h
  · rcases List.mem_append.mp h with h | h
    · exact .inl (List.mem_of_mem_take h)
    · exact .inr (List.mem_singleton.mp h)
  · exact .inl (List.mem_of_mem_drop h)
theorem g_rev {K : PySem.W.Frag} {te : TE} {σ : L2.St} {H : Hp} {Q : VK} (h : te σ H fun x H1 => ∃ a xs, x = .ref a ∧ SqL K H1 a xs ∧ ∀ p, H1 p = none → Q (.ref p) (upd H1 p (.lst xs.reverse))) : tRevL K te σ H Q := h
def odds : List Str := ([Str.ofString "0", Str.ofString "-0", Str.ofString "00", Str.ofString "01", Str.ofString "-01", Str.ofString "", Str.ofString "-", Str.ofString "+1", Str.ofString "1.0", Str.ofString "1e3", Str.ofString "a", Str.ofString "--1", Str.ofString "1-"] ++
  [Txt.mul (Str.ofString "9") 60, Txt.mul (Str.ofString "9") 61, Str.ofString "-" ++ Txt.mul (Str.ofString "9") 60, Str.ofString "1_0", Str.ofString "1_"])
def others : List Str := [Str.ofString "", Str.ofString "A", Str.ofString "abcdefghi", Str.ofString "a1", Str.ofString "a.b", Str.ofString "a\n", Str.ofString "self", Str.ofString "zzzzzzzz", Str.ofString "a"]
def menus : List Str := [Str.ofString "", Str.ofString "0", Str.ofString "-", Str.ofString "=", Str.ofString "a", Str.ofString "\n", Str.ofString "a:1", Str.ofString "a==1", Str.ofString "a=1=1", Str.ofString "a=1_0", Str.ofString "self=1", Str.ofString "a=1", Str.ofString "z=2"]
def tails : List Str := [Str.ofString "\n", Str.ofString " ", Str.ofString "=", Str.ofString ",", Str.ofString "0"]
theorem odds_ok : ∀ w ∈ odds, pieceB w = true := by decide +kernel
theorem others_ok : ∀ w ∈ others, pieceB w = true := by decide +kernel
theorem menus_ok : ∀ w ∈ menus, pieceB w = true := by decide +kernel
theorem tails_ok : ∀ w ∈ tails, pieceB w = true := by decide +kernel
theorem eq_ok : pieceB (Str.ofString "=") = true := by decide +kernel
theorem mul_ok (k : Int) (h : k = 60 ∨ k = 61) : MulOk (Str.ofString "9") k := by
  have e : (Str.ofString "9").length = 1 := by decide +kernel
  unfold MulOk
  rw [e]
  rcases h with rfl | rfl <;> decide +kernel
def spBent : Sp := fun vs H Q _ => ∃ (q L : Addr) (b n : Nat) (ws : List Str), vs = [.ref q, .ref L] ∧ Pen H q b ∧ b ≤ 80000 ∧ L ≠ q ∧ H L = some (.lst (ws.map L2.V.str)) ∧ ws ≠ [] ∧ ws.length ≤ 20 ∧ n ≤ 2 ∧ (∀ w ∈ ws, WordOk n w) ∧
  ∀ (p : Addr) (us : List Str) (H' : Hp), p ≠ q → H p = none → Led q (b + 6) H H' → H' p = some (.lst (us.map L2.V.str)) → us.length ≤ ws.length + 1 → (∀ w ∈ us, WordOk (n + 1) w) → Q (.ref p) H'
theorem Led.put {q p : Addr} {b b0 : Nat} {H H1 : Hp} {u : HO} (l : Led q b H H1) (hP : Pen H q b0) (hp : H p = none) : Led q b H (upd H1 p u) := l.keep hP hp But.self l.but
theorem ixn_nat {n j : Nat} (hj : j < n) : ixN n (j : Int) = some j := by
  unfold ixN
  rw [if_pos (by omega), if_pos (by omega), Int.toNat_natCast]
theorem str_mem {xs : List Str} {v : L2.V} (h : v ∈ xs.map L2.V.str) : ∃ s, s ∈ xs ∧ v = .str s := by
  obtain ⟨s, hs, rfl⟩ := List.mem_map.mp h
  exact ⟨s, hs, rfl⟩
theorem seq_nat {j n : Nat} (h : j < n) : seqIndex? (j : Int) n = some j := by
  unfold seqIndex?
  have h1 : ¬ ((j : Int) < 0) := by omega
  rw [if_neg h1]
  have h2 : (decide (0 ≤ (j : Int)) && decide ((j : Int) < (n : Int))) = true := by
    rw [Bool.and_eq_true]
    exact ⟨decide_eq_true (by omega), decide_eq_true (by omega)⟩
  rw [if_pos h2]
  rfl
theorem erase_map {α β : Type} (f : α → β) : ∀ (l : List α) (j : Nat), (l.map f).eraseIdx j = (l.eraseIdx j).map f
  | [], _ => rfl
  | a :: r, 0 => rfl
  | a :: r, j + 1 => congrArg (f a :: ·) (erase_map f r j)
section
variable {P : Program} {w : World} {K : PySem.W.Frag} {mg : Str → Option Value} {base : Heap}
set_option maxHeartbeats 16000000 in
theorem ok_law_bent (V : VF K mg) : FnOk P w K mg base CX0 3 V.fLB V.dLB ["_law_pen_here", "_law_words"] spBent := by
  have G_law_draw := k_law_draw (P := P) (w := w) (base := base) V
  have G_law_pick := k_law_pick (P := P) (w := w) (base := base) V
  refine V.F_law_bent.ok sc_law_bent (fun vs H Q E h => ?_) (fun cdv A outer s H vs Q E hr h => ?_)
  · obtain ⟨q, L, b, n, ws, rfl, _⟩ := h
    rfl
  · obtain ⟨q, L, b, n, ws, rfl, hP, hb, nLq, hL, ne, few, n2, wok, k⟩ := h
    have hu := hu_of hr
    have T := V.t
    refine ⟨_, (pss_cons (ps_par3 (i := 2) (j := 3) (l := 4) (by rfl) sc_law_bent.nd rfl rfl rfl (by decide) (by decide) (by decide) rfl rfl rfl (pa_cons (pe_call G_law_draw (hr.mono (by decide)) (by rfl) V.g_law_draw V.F_law_draw.kp V.b_law_draw .nil pass0 (pa_cons (pv 0) (pa_cons (pe_callB call_lenL (by rfl) T.len (by decide +kernel) (pa_cons (pv 1) pa_nil)) pa_nil))) (pa_cons (pe_call G_law_draw (hr.mono (by decide)) (by rfl) V.g_law_draw V.F_law_draw.kp V.b_law_draw .nil pass0 (pa_cons (pv 0) (pa_cons pe_int pa_nil))) (pa_cons (pe_callTy call_listL (by rfl) T.list (by decide +kernel) (pa_cons (pv 1) pa_nil)) pa_nil))) (by rfl))
      (pss_cons (ps_set (i := 5) sc_law_bent.nd rfl (Or.inl rfl) (pe_ix ix_list (pe_bm PySem.F.plainAttrs_str PySem.F.slot_str_split PySem.F.type_str_split mt_split (pe_ix ix_list (pv 1) (pv 2) (fun _ _ => rfl)) (pa_cons pe_str pa_nil)) pe_int (fun _ _ => rfl)))
      (pss_cons (ps_set (i := 6) sc_law_bent.nd rfl (Or.inl rfl) (pe_lst (pa_cons pe_str (pa_cons pe_str (pa_cons pe_str (pa_cons pe_str (pa_cons pe_str (pa_cons pe_str (pa_cons pe_str (pa_cons pe_str (pa_cons pe_str (pa_cons pe_str (pa_cons pe_str (pa_cons pe_str (pa_cons pe_str pa_nil)))))))))))))))
      (pss_cons (ps_set (i := 6) sc_law_bent.nd rfl (Or.inl rfl) (pe_op op_cat (pv 6) (pe_lst (pa_cons (pe_op op_repS pe_str pe_int) (pa_cons (pe_op op_repS pe_str pe_int) (pa_cons (pe_op op_addS pe_str (pe_op op_repS pe_str pe_int)) (pa_cons pe_str (pa_cons pe_str pa_nil))))))))
      (pss_cons (ps_set (i := 7) sc_law_bent.nd rfl (Or.inl rfl) (pe_lst (pa_cons pe_str (pa_cons pe_str (pa_cons pe_str (pa_cons pe_str (pa_cons pe_str (pa_cons pe_str (pa_cons pe_str (pa_cons pe_str (pa_cons pe_str pa_nil)))))))))))
      (pss_cons (ps_if (pt_cmpR op_eq (pv 3) pe_int (nomark _)) (pss_one (ps_expr (pe_bm PySem.F.plainAttrs_list PySem.F.slot_list_pop PySem.F.type_list_pop mt_popAt (pv 4) (pa_cons (pv 2) pa_nil)))) pss_nil)
      (pss_cons (ps_if (pt_cmpR op_eq (pv 3) pe_int (nomark _)) (pss_one (ps_expr (pe_bm PySem.F.plainAttrs_list PySem.F.slot_list_insert PySem.F.type_list_insert mt_insert (pv 4) (pa_cons (pv 2) (pa_cons (pe_ix ix_list (pv 1) (pe_call G_law_draw (hr.mono (by decide)) (by rfl) V.g_law_draw V.F_law_draw.kp V.b_law_draw .nil pass0 (pa_cons (pv 0) (pa_cons (pe_callB call_lenL (by rfl) T.len (by decide +kernel) (pa_cons (pv 1) pa_nil)) pa_nil))) (fun _ _ => rfl)) pa_nil))))) pss_nil)
      (pss_cons (ps_if (pt_cmpR op_eq (pv 3) pe_int (nomark _)) (pss_one (ps_asg (pe_op op_addS (pe_op op_addS (pv 5) pe_str) (pe_call G_law_pick (hr.mono (by decide)) (by rfl) V.g_law_pick V.F_law_pick.kp V.b_law_pick .nil pass0 (pa_cons (pv 0) (pa_cons (pv 6) pa_nil)))) (pg_sub (pv 4) (pv 2) set_list))) pss_nil)
      (pss_cons (ps_if (pt_cmpR op_eq (pv 3) pe_int (nomark _)) (pss_one (ps_asg (pe_op op_addS (pe_ix ix_list (pv 7) (pe_call G_law_draw (hr.mono (by decide)) (by rfl) V.g_law_draw V.F_law_draw.kp V.b_law_draw .nil pass0 (pa_cons (pv 0) (pa_cons pe_int pa_nil))) (fun _ _ => rfl)) (pe_slice sl_str (pe_ix ix_list (pv 1) (pv 2) (fun _ _ => rfl)) (po_some (pe_callB call_lenS (by rfl) T.len (by decide +kernel) (pa_cons (pv 5) pa_nil))) po_none)) (pg_sub (pv 4) (pv 2) set_list))) pss_nil)
      (pss_cons (ps_if (pt_cmpR op_eq (pv 3) pe_int (nomark _)) (pss_cons (ps_set (i := 8) sc_law_bent.nd rfl (Or.inl rfl) (pe_lst (pa_cons pe_str (pa_cons pe_str (pa_cons pe_str (pa_cons pe_str (pa_cons pe_str (pa_cons pe_str (pa_cons pe_str (pa_cons pe_str (pa_cons pe_str (pa_cons pe_str (pa_cons pe_str (pa_cons pe_str (pa_cons pe_str pa_nil)))))))))))))))
      (pss_one (ps_expr (pe_bm PySem.F.plainAttrs_list PySem.F.slot_list_insert PySem.F.type_list_insert mt_insert (pv 4) (pa_cons (pe_op op_add (pv 2) (pe_call G_law_draw (hr.mono (by decide)) (by rfl) V.g_law_draw V.F_law_draw.kp V.b_law_draw .nil pass0 (pa_cons (pv 0) (pa_cons pe_int pa_nil)))) (pa_cons (pe_call G_law_pick (hr.mono (by decide)) (by rfl) V.g_law_pick V.F_law_pick.kp V.b_law_pick .nil pass0 (pa_cons (pv 0) (pa_cons (pv 8) pa_nil))) pa_nil)))))) pss_nil)
      (pss_cons (ps_if (pt_cmpR op_eq (pv 3) pe_int (nomark _)) (pss_one (ps_set (i := 4) sc_law_bent.nd rfl (Or.inl rfl) (pe_revL (pv 4)))) pss_nil)
      (pss_cons (ps_if (pt_cmpR op_eq (pv 3) pe_int (nomark _)) (pss_one (ps_asg (pe_op op_addS (pe_ix ix_list (pv 1) (pv 2) (fun _ _ => rfl)) (pe_call G_law_pick (hr.mono (by decide)) (by rfl) V.g_law_pick V.F_law_pick.kp V.b_law_pick .nil pass0 (pa_cons (pv 0) (pa_cons (pe_lst (pa_cons pe_str (pa_cons pe_str (pa_cons pe_str (pa_cons pe_str (pa_cons pe_str pa_nil)))))) pa_nil)))) (pg_sub (pv 4) (pv 2) set_list))) pss_nil)
      (pss_one (ps_ret (pv 4))))))))))))))), ?_⟩
    try dsimp only [cxOf]
    rw [show L2.start N_law_bent [.ref q, .ref L] = [some (.ref q), some (.ref L), none, none, none, none, none, none, none] from rfl]
    have wpos : 0 < ws.length := List.length_pos_iff.mpr ne
    refine g_seq ?_
    refine g_par3 ?_
    walk_at "hx"
    refine ⟨q, ((ws.map L2.V.str).length : Int), b, rfl, hP, by omega, by rw [List.length_map]; omega, by rw [List.length_map]; omega, ?_⟩
    intro d H1 d0 d1 P1 t1
    walk_at "hx"
    refine ⟨q, 8, b + 1, rfl, P1, by omega, by decide, by decide, ?_⟩
    intro e H2 e0 e1 P2 t2
    have L2' : Led q (b + 1 + 1) H H2 := ⟨P2, t1.trans t2⟩
    have hL2 := L2'.but.st _ _ nLq hL
    walk_at "hx"
    refine g_listL (SqL.of hL2) ?_
    intro F hF
    have nFq : F ≠ q := P2.ne hF
    have hF0 : H F = none := L2'.but.free nFq hF
    have L3 := L2'.new (o := .lst (ws.map L2.V.str)) hF
    have fL : upd H2 F (.lst (ws.map L2.V.str)) L = some (.lst (ws.map L2.V.str)) := by rw [upd_ne (ne_of_none hL2 hF)]; exact hL2
    have fF : upd H2 F (.lst (ws.map L2.V.str)) F = some (.lst (ws.map L2.V.str)) := upd_same
    generalize upd H2 F (.lst (ws.map L2.V.str)) = H3 at L3 fL fF ⊢
    clear t1 t2 P1 P2 L2' hL2 hF
    walk_at "hx"
    refine ⟨_, _, _, rfl, ?_⟩
    dsimp only [List.set]
    obtain ⟨j, rfl⟩ : ∃ j : Nat, d = (j : Int) := ⟨d.toNat, by omega⟩
    have hj : j < ws.length := by rw [List.length_map] at d1; omega
    obtain ⟨x, hx⟩ : ∃ x, ws[j]? = some x := ⟨ws[j], List.getElem?_eq_getElem hj⟩
    have xok := wok x (List.mem_of_getElem? hx)
    have hxs : (ws.map L2.V.str)[j]? = some (.str x) := by rw [List.getElem?_map, hx]; rfl
    have xl := xok.len
    refine g_seq ?_
    walk_at "hx"
    refine g_bm ?_
    walk_at "hx"
    refine g_ixL (SqL.of fL) (atI_nat hxs) ?_
    walk_at "hx"
    refine ⟨x, _, rfl, rfl, len1E, Nat.le_trans (show x.length + 2 ≤ 200000 by omega) (by decide), ?_⟩
    intro p1 hp1
    obtain ⟨a, r, hp⟩ := parts_cons x
    rw [show Txt.split x (Str.ofString "=") = a :: r from hp]
    have aok := xok.part (a := a) (by rw [hp]; exact List.mem_cons_self)
    have al := aok.len
    walk_at "hx"
    refine g_ixL (i := ((0 : Nat) : Int)) (SqL.of upd_same) (atI_nat (show ((a :: r).map L2.V.str)[0]? = some (.str a) from rfl)) ?_
    have L4 := L3.new (o := .lst ((a :: r).map L2.V.str)) hp1
    replace fL := same_new (o := .lst ((a :: r).map L2.V.str)) hp1 _ _ fL
    replace fF := same_new (o := .lst ((a :: r).map L2.V.str)) hp1 _ _ fF
    generalize upd H3 p1 (.lst ((a :: r).map L2.V.str)) = H4 at L4 fL fF ⊢
    clear L3 hp1
    walk_at "hx"
    refine g_seq ?_
    walk_at "hx"
    intro O1 hO1
    walk_at "hx"
    refine g_seq ?_
    walk_at "hx"
    refine ⟨_, 60, rfl, rfl, mul_ok 60 (.inl rfl), ?_⟩
    walk_at "hx"
    refine ⟨_, 61, rfl, rfl, mul_ok 61 (.inr rfl), ?_⟩
    walk_at "hx"
    refine ⟨_, 60, rfl, rfl, mul_ok 60 (.inl rfl), ?_⟩
    walk_at "hx"
    refine g_addS (by decide +kernel) ?_
    walk_at "hx"
    intro p2 hp2
    have nO1 : O1 ≠ p2 := fun z => by rw [← z, upd_same] at hp2; cases hp2
    refine g_catW (ws := odds.map L2.V.str) (by rw [upd_ne nO1]; exact upd_same) upd_same rfl (by decide +kernel) ?_
    intro O2 hO2
    have L5 := L4.new (o := .lst [L2.V.str (Str.ofString "0"), L2.V.str (Str.ofString "-0"), L2.V.str (Str.ofString "00"), L2.V.str (Str.ofString "01"), L2.V.str (Str.ofString "-01"), L2.V.str (Str.ofString ""), L2.V.str (Str.ofString "-"), L2.V.str (Str.ofString "+1"), L2.V.str (Str.ofString "1.0"), L2.V.str (Str.ofString "1e3"), L2.V.str (Str.ofString "a"), L2.V.str (Str.ofString "--1"), L2.V.str (Str.ofString "1-")]) hO1
    replace fL := same_new (o := .lst [L2.V.str (Str.ofString "0"), L2.V.str (Str.ofString "-0"), L2.V.str (Str.ofString "00"), L2.V.str (Str.ofString "01"), L2.V.str (Str.ofString "-01"), L2.V.str (Str.ofString ""), L2.V.str (Str.ofString "-"), L2.V.str (Str.ofString "+1"), L2.V.str (Str.ofString "1.0"), L2.V.str (Str.ofString "1e3"), L2.V.str (Str.ofString "a"), L2.V.str (Str.ofString "--1"), L2.V.str (Str.ofString "1-")]) hO1 _ _ fL
    replace fF := same_new (o := .lst [L2.V.str (Str.ofString "0"), L2.V.str (Str.ofString "-0"), L2.V.str (Str.ofString "00"), L2.V.str (Str.ofString "01"), L2.V.str (Str.ofString "-01"), L2.V.str (Str.ofString ""), L2.V.str (Str.ofString "-"), L2.V.str (Str.ofString "+1"), L2.V.str (Str.ofString "1.0"), L2.V.str (Str.ofString "1e3"), L2.V.str (Str.ofString "a"), L2.V.str (Str.ofString "--1"), L2.V.str (Str.ofString "1-")]) hO1 _ _ fF
    generalize upd H4 O1 (.lst [L2.V.str (Str.ofString "0"), L2.V.str (Str.ofString "-0"), L2.V.str (Str.ofString "00"), L2.V.str (Str.ofString "01"), L2.V.str (Str.ofString "-01"), L2.V.str (Str.ofString ""), L2.V.str (Str.ofString "-"), L2.V.str (Str.ofString "+1"), L2.V.str (Str.ofString "1.0"), L2.V.str (Str.ofString "1e3"), L2.V.str (Str.ofString "a"), L2.V.str (Str.ofString "--1"), L2.V.str (Str.ofString "1-")]) = H5 at L5 fL fF hp2 hO2 ⊢
    clear L4 hO1
    have L6 := L5.new (o := .lst [L2.V.str (Txt.mul (Str.ofString "9") 60), L2.V.str (Txt.mul (Str.ofString "9") 61), L2.V.str (Str.ofString "-" ++ Txt.mul (Str.ofString "9") 60), L2.V.str (Str.ofString "1_0"), L2.V.str (Str.ofString "1_")]) hp2
    replace fL := same_new (o := .lst [L2.V.str (Txt.mul (Str.ofString "9") 60), L2.V.str (Txt.mul (Str.ofString "9") 61), L2.V.str (Str.ofString "-" ++ Txt.mul (Str.ofString "9") 60), L2.V.str (Str.ofString "1_0"), L2.V.str (Str.ofString "1_")]) hp2 _ _ fL
    replace fF := same_new (o := .lst [L2.V.str (Txt.mul (Str.ofString "9") 60), L2.V.str (Txt.mul (Str.ofString "9") 61), L2.V.str (Str.ofString "-" ++ Txt.mul (Str.ofString "9") 60), L2.V.str (Str.ofString "1_0"), L2.V.str (Str.ofString "1_")]) hp2 _ _ fF
    generalize upd H5 p2 (.lst [L2.V.str (Txt.mul (Str.ofString "9") 60), L2.V.str (Txt.mul (Str.ofString "9") 61), L2.V.str (Str.ofString "-" ++ Txt.mul (Str.ofString "9") 60), L2.V.str (Str.ofString "1_0"), L2.V.str (Str.ofString "1_")]) = H6 at L6 fL fF hO2 ⊢
    clear L5 hp2
    have nO2 : O2 ≠ q := L6.pen.ne hO2
    have L7 := L6.new (o := .lst (odds.map L2.V.str)) hO2
    replace fL := same_new (o := .lst (odds.map L2.V.str)) hO2 _ _ fL
    replace fF := same_new (o := .lst (odds.map L2.V.str)) hO2 _ _ fF
    have fO : upd H6 O2 (.lst (odds.map L2.V.str)) O2 = some (.lst (odds.map L2.V.str)) := upd_same
    generalize upd H6 O2 (.lst (odds.map L2.V.str)) = H7 at L7 fL fF fO ⊢
    clear L6 hO2
    walk_at "hx"
    refine g_seq ?_
    walk_at "hx"
    intro M2 hM2
    have nM2 : M2 ≠ q := L7.pen.ne hM2
    have L8 := L7.new (o := .lst (others.map L2.V.str)) hM2
    replace fL := same_new (o := .lst (others.map L2.V.str)) hM2 _ _ fL
    replace fF := same_new (o := .lst (others.map L2.V.str)) hM2 _ _ fF
    replace fO := same_new (o := .lst (others.map L2.V.str)) hM2 _ _ fO
    have fM : upd H7 M2 (.lst (others.map L2.V.str)) M2 = some (.lst (others.map L2.V.str)) := upd_same
    change (gName 7 _ _ (upd H7 M2 (.lst (others.map L2.V.str))) _)
    generalize upd H7 M2 (.lst (others.map L2.V.str)) = H8 at L8 fL fF fO fM ⊢
    clear L7 hM2
    refine g_name ?_
    dsimp only [List.set]
    have lenF : (ws.map L2.V.str).length < sizeLine := by
      rw [List.length_map]
      exact Nat.lt_of_lt_of_le (show ws.length < 1000 by omega) (by decide)
    have small : ∀ s : Str, s.length ≤ 1000 → s.length ≤ sizeLine := fun s h => small_of (by omega)
    have setOk : ∀ z, WordOk (n + 1) z → ∀ y ∈ ws.set j z, WordOk (n + 1) y := fun z hz y hy => by
      rcases List.mem_or_eq_of_mem_set hy with h | h
      · exact (wok y h).more
      · rw [h]; exact hz
    have insOk : ∀ z i, WordOk (n + 1) z → ∀ y ∈ ws.take i ++ [z] ++ ws.drop i, WordOk (n + 1) y := fun z i hz y hy => by
      rcases ins_mem hy with h | h
      · exact (wok y h).more
      · rw [h]; exact hz
    have sum1 : ∀ a b : Str, a.length ≤ 1000 → b.length ≤ 1000 → a.length + b.length ≤ sizeLine := fun a b h g => small_of (by omega)
    have he : e = 0 ∨ e = 1 ∨ e = 2 ∨ e = 3 ∨ e = 4 ∨ e = 5 ∨ e = 6 ∨ e = 7 := by omega
    clear e0 e1 d0 d1
    rcases he with rfl | rfl | rfl | rfl | rfl | rfl | rfl | rfl
    · walk_at "hgo"
      refine g_bm ?_
      walk_at "hgo"
      refine ⟨.inl ⟨rfl, _, SqL.of fF⟩, ?_⟩
      walk_at "hgo"
      refine ⟨F, ws.map L2.V.str, (j : Int), j, .str x, rfl, rfl, fF, by omega, by omega, seq_nat (by rw [List.length_map]; exact hj), hxs, ?_⟩
      rw [erase_map]
      walk_at "hgo"
      refine k F (ws.eraseIdx j) _ nFq hF0 ((L8.put hP hF0).more (by omega)) upd_same ?_ (fun y hy => (wok y (List.mem_of_mem_eraseIdx hy)).more)
      have := List.length_eraseIdx_le ws j
      omega
    · walk_at "hgo"
      refine g_bm ?_
      walk_at "hgo"
      refine ⟨.inl ⟨rfl, _, SqL.of fF⟩, ?_⟩
      walk_at "hgo"
      refine ⟨q, ((ws.map L2.V.str).length : Int), _, rfl, L8.pen, by omega, by rw [List.length_map]; omega, by rw [List.length_map]; omega, ?_⟩
      intro d2 H9 c0 c1 P9 t9
      have L9 := L8.draw P9 t9
      obtain ⟨j2, rfl⟩ : ∃ j : Nat, d2 = (j : Int) := ⟨d2.toNat, by omega⟩
      have hj2 : j2 < ws.length := by rw [List.length_map] at c1; omega
      walk_at "hgo"
      refine g_ixL (SqL.of (t9.st _ _ nLq fL)) (atI_nat (v := .str ws[j2]) (by rw [List.getElem?_map, List.getElem?_eq_getElem hj2]; rfl)) ?_
      walk_at "hgo"
      refine ⟨F, ws.map L2.V.str, (j : Int), .str ws[j2], rfl, rfl, t9.st _ _ nFq fF, lenF, by omega, by omega, ?_⟩
      rw [ins_map]
      walk_at "hgo"
      exact k F _ _ nFq hF0 ((L9.put hP hF0).more (by omega)) upd_same (by rw [ins_len]; omega) (insOk _ _ (wok _ (List.getElem_mem hj2)).more)
    · walk_at "hgo"
      refine g_addS (sum1 _ _ (by omega) (by decide +kernel)) ?_
      walk_at "hgo"
      refine ⟨q, O2, _, _, rfl, L8.pen, by omega, nO2, fO, by decide, by decide, ?_⟩
      intro v H9 hv P9 t9
      have L9 := L8.draw P9 t9
      obtain ⟨s0, hs0, rfl⟩ := str_mem hv
      have po := piece_eq (odds_ok s0 hs0)
      have p0 := (piece_of (odds_ok s0 hs0)).len
      have e1 : (Str.ofString "=").length = 1 := by decide +kernel
      walk_at "hgo"
      refine g_addS (sum1 _ _ (by rw [strLen_add, e1]; omega) (by omega)) ?_
      walk_at "hgo"
      refine g_setL (t9.st _ _ nFq fF) (ixn_nat (by rw [List.length_map]; exact hj)) ?_
      rw [str_assoc, ← List.map_set]
      walk_at "hgo"
      exact k F _ _ nFq hF0 ((L9.put hP hF0).more (by omega)) upd_same (by rw [List.length_set]; omega) (setOk _ (aok.add po))
    · walk_at "hgo"
      refine ⟨q, 9, _, rfl, L8.pen, by omega, by decide, by decide, ?_⟩
      intro d2 H9 c0 c1 P9 t9
      have L9 := L8.draw P9 t9
      obtain ⟨j2, rfl⟩ : ∃ j : Nat, d2 = (j : Int) := ⟨d2.toNat, by omega⟩
      have hj2 : j2 < others.length := by show j2 < 9; omega
      walk_at "hgo"
      refine g_ixL (SqL.of (t9.st _ _ nM2 fM)) (atI_nat (v := .str others[j2]) (by rw [List.getElem?_map, List.getElem?_eq_getElem hj2]; rfl)) ?_
      walk_at "hgo"
      refine g_ixL (SqL.of (t9.st _ _ nLq fL)) (atI_nat hxs) ?_
      walk_at "hgo"
      refine g_lenS (small _ (by omega)) ?_
      walk_at "hgo"
      refine g_slS (small _ (by omega)) ?_
      have po := piece_of (others_ok _ (List.getElem_mem hj2))
      have cl := cutS_length x (some (a.length : Int)) none
      have pl := po.len
      walk_at "hgo"
      refine g_addS (sum1 _ _ (by omega) (by omega)) ?_
      walk_at "hgo"
      refine g_setL (t9.st _ _ nFq fF) (ixn_nat (by rw [List.length_map]; exact hj)) ?_
      rw [← List.map_set]
      walk_at "hgo"
      exact k F _ _ nFq hF0 ((L9.put hP hF0).more (by omega)) upd_same (by rw [List.length_set]; omega) (setOk _ (PieceOk.add (xok.cut _ _) po))
    · walk_at "hgo"
      intro N hN
      have L9 := L8.new (o := .lst (menus.map L2.V.str)) hN
      have nNq := L8.pen.ne hN
      have gF := same_new (o := .lst (menus.map L2.V.str)) hN _ _ fF
      have gN : upd H8 N (.lst (menus.map L2.V.str)) N = some (.lst (menus.map L2.V.str)) := upd_same
      change (gName 8 _ _ (upd H8 N (.lst (menus.map L2.V.str))) _)
      generalize upd H8 N (.lst (menus.map L2.V.str)) = H9 at L9 gF gN ⊢
      refine g_name ?_
      walk_at "hgo"
      refine g_bm ?_
      walk_at "hgo"
      refine ⟨.inl ⟨rfl, _, SqL.of gF⟩, ?_⟩
      walk_at "hgo"
      refine ⟨q, 2, _, rfl, L9.pen, by omega, by decide, by decide, ?_⟩
      intro d2 H10 c0 c1 P10 t10
      have L10 := L9.draw P10 t10
      walk_at "hgo"
      refine ⟨q, N, _, _, rfl, L10.pen, by omega, nNq, t10.st _ _ nNq gN, by decide, by decide, ?_⟩
      intro v H11 hv P11 t11
      have L11 := L10.draw P11 t11
      obtain ⟨s0, hs0, rfl⟩ := str_mem hv
      have po := piece_of (menus_ok s0 hs0)
      walk_at "hgo"
      refine ⟨F, ws.map L2.V.str, (j : Int) + d2, .str s0, rfl, rfl, t11.st _ _ nFq (t10.st _ _ nFq gF), lenF, by omega, by omega, ?_⟩
      rw [ins_map]
      walk_at "hgo"
      exact k F _ _ nFq hF0 ((L11.put hP hF0).more (by omega)) upd_same (by rw [ins_len]; omega) (insOk _ _ po.word)
    · walk_at "hgo"
      refine g_rev ?_
      walk_at "hgo"
      refine ⟨F, _, rfl, SqL.of fF, ?_⟩
      intro p hp
      walk_at "hgo"
      have npq := L8.pen.ne hp
      refine k p ws.reverse _ npq (L8.but.free npq hp) ((L8.new hp).more (by omega)) (by rw [upd_same, List.map_reverse]) (by rw [List.length_reverse]; omega) (fun y hy => (wok y (List.mem_reverse.mp hy)).more)
    · walk_at "hgo"
      refine g_ixL (SqL.of fL) (atI_nat hxs) ?_
      walk_at "hgo"
      intro N hN
      have L9 := L8.new (o := .lst (tails.map L2.V.str)) hN
      have nNq := L8.pen.ne hN
      have gF := same_new (o := .lst (tails.map L2.V.str)) hN _ _ fF
      have gN : upd H8 N (.lst (tails.map L2.V.str)) N = some (.lst (tails.map L2.V.str)) := upd_same
      walk_at "hgo"
      refine ⟨q, N, _, tails.map L2.V.str, rfl, L9.pen, by omega, nNq, gN, by decide, by decide, ?_⟩
      change (∀ (v : L2.V) (H' : Hp), v ∈ tails.map L2.V.str → Pen H' q _ → But q (upd H8 N (.lst (tails.map L2.V.str))) H' → _)
      generalize upd H8 N (.lst (tails.map L2.V.str)) = H9 at L9 gF gN ⊢
      intro v H10 hv P10 t10
      have L10 := L9.draw P10 t10
      obtain ⟨s0, hs0, rfl⟩ := str_mem hv
      have po := piece_of (tails_ok s0 hs0)
      have pl := po.len
      walk_at "hgo"
      refine g_addS (sum1 _ _ (by omega) (by omega)) ?_
      walk_at "hgo"
      refine g_setL (t10.st _ _ nFq gF) (ixn_nat (by rw [List.length_map]; exact hj)) ?_
      rw [← List.map_set]
      walk_at "hgo"
      exact k F _ _ nFq hF0 ((L10.put hP hF0).more (by omega)) upd_same (by rw [List.length_set]; omega) (setOk _ (xok.add po))
    · walk_at "hgo"
      exact k F ws _ nFq hF0 (L8.more (by omega)) fF (by omega) (fun y hy => (wok y hy).more)
end

def spHeard (K : PySem.W.Frag) : Sp := fun vs H Q _ => ∃ v, vs = [v] ∧
  ((∃ t, v = .str t ∧ t.length ≤ 90000 ∧ (wordsOf t).length ≤ 60 ∧ (∀ l p H', due t = .inr l → Asc l → l.length ≤ 60 → H p = none → Same H H' → Rows H' p l → Q (.ref p) H') ∧
      ∀ i p H', due t = .inl i → H p = none → Same H H' → H' p = some (.tup [.int 0, .int (i : Nat)]) → Q (.ref p) H') ∨
   (NotS K H v ∧ ∀ p H', H p = none → Same H H' → H' p = some (.tup [.int 0, .int 0]) → Q (.ref p) H'))
theorem fsT_line (i j : Int) : (fsT i j).lookup ("line" : Str) = some (.int i) := by
  have h1 : (("line" : Str) == ("word" : Str)) = false := by decide +kernel
  have h2 : (("line" : Str) == ("line" : Str)) = true := by decide +kernel
  unfold fsT
  rw [List.lookup_cons, h1, List.lookup_cons, h2]
theorem fsT_word (i j : Int) : (fsT i j).lookup ("word" : Str) = some (.int j) := by
  have h2 : (("word" : Str) == ("word" : Str)) = true := by decide +kernel
  unfold fsT
  rw [List.lookup_cons, h2]
section
variable {P : Program} {w : World} {K : PySem.W.Frag} {mg : Str → Option Value} {base : Heap}
set_option maxHeartbeats 8000000 in
theorem ok_law_heard (V : VF K mg) : FnOk P w K mg base CX0 8 V.fLR V.dLR ["_law_text_so"] (spHeard K) := by
  have G_names := ok_names (P := P) (w := w) (base := base) V
  have G_item := (ok_item (P := P) (w := w) (base := base) V).raw V.b_item .nil
  have G_read := (ok_read (P := P) (w := w) (base := base) V).raw V.b_read .nil
  refine V.F_law_heard.ok sc_law_heard (fun vs H Q E h => ?_) (fun cdv A outer s H vs Q E hr h => ?_)
  · obtain ⟨v, rfl, _⟩ := h
    rfl
  · obtain ⟨v, rfl, h⟩ := h
    have hu := hu_of hr
    have T := V.t
    refine ⟨_, (pss_cons (ps_set (i := 1) sc_law_heard.nd rfl (Or.inl rfl) pe_non)
      (pss_cons (ps_try_keep (tb := fun W => tSeq (tAsg (tCMethS V.C (fun vs H Q E => spRead K V.C V.CT (vs ++ []) H Q E) (WE W) (tC (.ref V.C)) (tCons (tVar 0) tNil)) (gName 2)) (tRet (tLc (iTup K (tProp V.C (spNames V.C) [] E0 (tVar 2))) (gName 3) tYes (tTup (tCons (tVar 3) (tCons (tOp (rIxO V.C (fun vs H Q E => spItem V.C (vs ++ []) H Q E) E0) (tVar 2) (tVar 3)) tNil))) [3]))) (ts := fun _ _ _ => tAsg (tVar 4) (gName 1)) (i := 4) (Wout := fun _ _ _ _ => False) rfl rfl rfl sc_law_heard.nd rfl rfl ⟨by rfl, by decide, Or.inl V.g_NetError⟩ ⟨by rfl, by decide, Or.inl V.g_MissingError⟩ takes0 (fun W pn xe tk _ => by exact (pss_cons (ps_set (i := 2) sc_law_heard.nd rfl (Or.inr rfl) (pe_cmethS (pe_glob (v := .ref V.C) (by rfl) V.g_Vector rfl) V.rd_V V.cm_read G_read (hr.mono (by decide)) (fun σ => passAt tk σ) (by exact (pa_cons (pv 0) pa_nil))))
      (pss_one (ps_ret (pe_lc (own := [("_law_label", 3)]) (g := gName 3) rfl sc_law_heard.nd (pi_tup (pe_prop (pv 2) V.c_V V.p_names G_names (hr.mono (by decide)) V.b_names .nil pass0 rfl)) (blkOk_by (own := [("_law_label", 3)]) (N := N_law_heard) (sc := defScope s_law_heard) (by decide +kernel)) (fun _ _ _ _ _ => pg_name (i := 3) sc_law_heard.nd rfl (Or.inl rfl)) (fun _ _ _ _ _ => pts_nil) (fun _ _ _ _ _ => (pe_tup (pa_cons (pv 3) (pa_cons (ix_own V.O_item V.fn_item G_item (hr.mono (by decide)) pass0 (pv 2) (pv 3) (fun _ _ => rfl)) pa_nil))))))))) (fun a oe cls d pn hz hf => by exact (pss_one (ps_set (i := 1) sc_law_heard.nd rfl (Or.inl rfl) (pv 4)))))
      (pss_cons (ps_if (PW.pt (pw_or (pt_not (pt_val (pe_callB call_askC (by rfl) T.isinstance (by decide +kernel) (pa_cons (pv 1) (pa_cons (pe_glob (v := .ref V.CT) (by rfl) V.g_InvalidText rfl) pa_nil))))) (pw_or1 (pt_not (pt_val (pe_callB call_askC (by rfl) T.isinstance (by decide +kernel) (pa_cons (pv 1) (pa_cons (pe_bltn (v := .ty "ValueError") (u := .type "ValueError") (by rfl) V.u.ValueError (by decide +kernel) rfl) pa_nil)))))))) (pss_one (ps_ret pe_str)) pss_nil)
      (pss_one (ps_ret (pe_tup (pa_cons (pe_fldC (pv 1)) (pa_cons (pe_fldC (pv 1)) pa_nil)))))))), ?_⟩
    try dsimp only [cxOf]
    rw [show L2.start N_law_heard [v] = [some v, none, none, none, none] from rfl]
    walk_at "hgo"
    refine g_cmS ?_
    walk_at "hgo"
    refine ⟨rfl, ?_⟩
    walk_at "hgo"
    refine ⟨v, rfl, ?_⟩
    rcases h with ⟨t, rfl, ht, few, k1, k2⟩ | ⟨hn, kk⟩
    · refine .inl ⟨t, rfl, by omega, few, ?_, ?_⟩
      · intro l a H0 du asc few2 na s1 va
        walk_at "hgo"
        obtain ⟨⟨d, dx, h1, h2⟩, cn, ok⟩ := id va
        walk_at "hgo"
        refine g_prop ?_
        walk_at "hx"
        refine ⟨a, dx, _, rfl, h1, a, l, rfl, va, ?_⟩
        intro tp ntp
        refine g_atT (SqT.of (upd_same (o := .tup ((ks l).map L2.V.str)))) fun D hD => ?_
        have ndp : D ≠ tp := fun e => by rw [e, upd_same] at hD; cases hD
        rw [upd_ne ndp] at hD
        refine lc_it (walk_tup (K := K) (xs := (ks l).map L2.V.str)) (fun i H' => H' tp = some (.tup ((ks l).map L2.V.str)) ∧ (∃ ts : List Addr, H' D = some (.lst (ts.map L2.V.ref)) ∧ Cells H' ts (l.take i)) ∧ Same H0 H') ?_ (fun _ _ _ z => SqT.of z.1) ?_ ?_
        · refine ⟨?_, ⟨[], upd_same, .nil⟩, ?_⟩
          · rw [upd_ne ndp.symm]; exact upd_same
          · exact same_trans (same_new ntp) (same_new (by rw [upd_ne ndp]; exact hD))
        · rintro i x H1 H2 hi ⟨p1, ⟨ts, p2, p2'⟩, p3⟩ ⟨rfl, hx⟩
          obtain ⟨y, hy, rfl⟩ := str_at hx
          have my : y ∈ ks l := List.mem_of_getElem? hy
          have hi2 : i < l.length := by rw [List.length_map, ks_len] at hi; exact hi
          walk_at "hgo"
          refine ⟨rfl, ?_⟩
          walk_at "hgo"
          refine ⟨a, rfl, (va.same p3).inst, a, l, y, d, dx, rfl, p3 _ _ h1, .inl (p3 _ _ h2), ok y my, ?_⟩
          walk_at "hgo"
          intro T1 nT
          have nDT : D ≠ T1 := ne_of_none p2 nT
          have sT := same_new (o := .tup [L2.V.str y, L2.V.int (vl l y)]) nT
          refine ⟨_, sT _ _ p2, ?_, ?_, ⟨ts ++ [T1], ?_, ?_⟩, ?_⟩
          · rw [List.length_map, p2'.len, List.length_take]
            exact Nat.lt_of_lt_of_le (show min i l.length < 1000 by omega) (by decide)
          · rw [upd_ne ndp.symm]; exact sT _ _ p1
          · rw [upd_same, List.map_append]; rfl
          · have e : l.take (i + 1) = l.take i ++ [(y, vl l y)] := by
              have : l[i]? = some (y, vl l y) := by
                have z : (ks l)[i]? = some y := hy
                unfold ks at z
                rw [List.getElem?_map] at z
                cases w : l[i]? with
                | none => rw [w] at z; cases z
                | some p =>
                  rw [w] at z
                  have z2 : p.1 = y := Option.some.inj z
                  rw [← z2, vl_mem va.nd (List.mem_of_getElem? w)]
              rw [List.take_add_one, this]; rfl
            rw [e]
            refine Cells.past (sT _ _ p2) ((p2'.same sT).snoc (p := (y, vl l y)) upd_same)
          · intro x o z
            rw [upd_ne (ne_of_none z hD)]
            exact sT _ _ (p3 _ _ z)
        · rintro H1 ⟨p1, ⟨ts, p2, p2'⟩, p3⟩
          rw [List.length_map, ks_len, List.take_length] at p2'
          exact k1 l D _ du asc few2 (none_back s1 hD) (same_trans s1 p3) ⟨ts, p2, p2'⟩
      · intro i d H1 du hd s1 e1
        have kk := fun p H2 a b c => k2 i p H2 du a b c
        refine ⟨true, V.ex_T, fun _ a ha => ?_, fun z => Bool.noConfusion z⟩
        show tAsg (tVar 4) (gName 1) _ _ _
        dsimp only [List.set]
        refine g_asg ?_
        refine g_var rfl ?_
        refine g_name ?_
        show H1 a = none → _
        intro ha2
        have nda : d ≠ a := ne_of_none e1 ha
        have kp : Kept1 V.CT a (fsT 0 (i : Nat)) (upd H1 a (Caught (.ref V.CT) (some d) a)) := ⟨d, upd_same, by rw [upd_ne nda]; exact e1⟩
        have s2 : Same H (upd H1 a (Caught (.ref V.CT) (some d) a)) := same_trans s1 (same_new ha)
        generalize upd H1 a (Caught (.ref V.CT) (some d) a) = H3 at kp s2 ⊢
        dsimp only [List.set]
        walk_at "hgo"
        refine ⟨a, V.CT, _, .ref V.CT, .ref V.CT, true, rfl, (fun u r => r), V.ask_T, kp, V.k_TT, ?_⟩
        walk_at "hgo"
        refine ⟨a, V.CT, _, .ty "ValueError", .type "ValueError", true, rfl, (fun u r => r), V.ask_T, kp, V.k_TV, ?_⟩
        walk_at "hgo"
        refine g_fldC ?_
        walk_at "hgo"
        refine ⟨a, V.CT, _, .int 0, rfl, V.ask_T, V.n_line, kp, fsT_line 0 (i : Nat), ?_⟩
        walk_at "hgo"
        refine g_fldC ?_
        walk_at "hgo"
        refine ⟨a, V.CT, _, .int (i : Nat), rfl, V.ask_T, V.n_word, kp, fsT_word 0 (i : Nat), ?_⟩
        walk_at "hgo"
        intro p hp
        walk_at "hgo"
        exact kk p _ (none_back s2 hp) (same_trans s2 (same_new hp)) upd_same
    · refine .inr ⟨hn, fun d H1 hd s1 e1 => ?_⟩
      refine ⟨true, V.ex_T, fun _ a ha => ?_, fun z => Bool.noConfusion z⟩
      show tAsg (tVar 4) (gName 1) _ _ _
      dsimp only [List.set]
      refine g_asg ?_
      refine g_var rfl ?_
      refine g_name ?_
      show H1 a = none → _
      intro ha2
      have nda : d ≠ a := ne_of_none e1 ha
      have kp : Kept1 V.CT a (fsT 0 0) (upd H1 a (Caught (.ref V.CT) (some d) a)) := ⟨d, upd_same, by rw [upd_ne nda]; exact e1⟩
      have s2 : Same H (upd H1 a (Caught (.ref V.CT) (some d) a)) := same_trans s1 (same_new ha)
      generalize upd H1 a (Caught (.ref V.CT) (some d) a) = H3 at kp s2 ⊢
      dsimp only [List.set]
      walk_at "hgo"
      refine ⟨a, V.CT, _, .ref V.CT, .ref V.CT, true, rfl, (fun u r => r), V.ask_T, kp, V.k_TT, ?_⟩
      walk_at "hgo"
      refine ⟨a, V.CT, _, .ty "ValueError", .type "ValueError", true, rfl, (fun u r => r), V.ask_T, kp, V.k_TV, ?_⟩
      walk_at "hgo"
      refine g_fldC ?_
      walk_at "hgo"
      refine ⟨a, V.CT, _, .int 0, rfl, V.ask_T, V.n_line, kp, fsT_line 0 0, ?_⟩
      walk_at "hgo"
      refine g_fldC ?_
      walk_at "hgo"
      refine ⟨a, V.CT, _, .int 0, rfl, V.ask_T, V.n_word, kp, fsT_word 0 0, ?_⟩
      walk_at "hgo"
      intro p hp
      walk_at "hgo"
      exact kk p _ (none_back s2 hp) (same_trans s2 (same_new hp)) upd_same
end

/-- rows that can be shown -/
structure Shw (r : IL) : Prop where
  ent : ∀ p ∈ r, okS p.1 = true ∧ p.2.natAbs < 2 ^ 422
  len : r.length ≤ 60
def tpD (r : IL) : List PyData := r.map fun p => .tuple [.str p.1, .int p.2]
theorem log_lt {i : Int} (h : i.natAbs < 2 ^ 422) : i.natAbs.log2 < 422 := PySem.Flt.log2_lt_of (by decide) h
theorem tp_all : ∀ {r : IL}, (∀ p ∈ r, okS p.1 = true ∧ p.2.natAbs < 2 ^ 422) → PyData.showableAll (tpD r) = true ∧ PyData.hasDictAll (tpD r) = false ∧ PyData.depthAll (tpD r) ≤ 1 ∧ PyData.canLayAll0 (tpD r) = true ∧ PyData.intsShortAll 423 (tpD r) = true ∧ PyData.weightAll (tpD r) ≤ r.length * 435
  | [], _ => by refine ⟨rfl, rfl, Nat.zero_le _, rfl, rfl, Nat.zero_le _⟩
  | p :: r, h => by
    obtain ⟨h1, h2⟩ := h p List.mem_cons_self
    obtain ⟨a, b, c, d, e, f⟩ := tp_all (r := r) fun q hq => h q (List.mem_cons_of_mem _ hq)
    have lg := log_lt h2
    have sl := okS_len h1
    have so := okS_strOk h1
    have tl : (Str.ofString (toString p.2)).length ≤ 423 := by
      rw [PySem.ofString_length]
      exact int_text_length_le (by decide) lg
    have e0 : tpD (p :: r) = .tuple [.str p.1, .int p.2] :: tpD r := rfl
    have sz : p.1.cps.size = p.1.length := rfl
    rw [e0]
    refine ⟨?_, ?_, ?_, ?_, ?_, ?_⟩
    · simp only [PyData.showableAll, PyData.showable, a, Bool.and_true, Bool.true_and]
      exact decide_eq_true (by omega)
    · simp only [PyData.hasDictAll, PyData.hasDict, b, Bool.or_false]
    · simp only [PyData.depthAll, PyData.depth]; omega
    · simp only [PyData.canLayAll0, PyData.canLay0, d, so, Bool.and_true]
    · simp only [PyData.intsShortAll, PyData.intsShort, e, Bool.and_true, Bool.true_and]
      exact decide_eq_true tl
    · simp only [PyData.weightAll, PyData.weight, List.length_cons]
      have w1 : (if (p.2 == 0) = true then 0 else p.2.natAbs.log2 + 1) ≤ 422 := by split <;> omega
      rw [sz]
      omega
theorem pd_shaped {r : IL} (h : Shw r) : SeqAt.shaped (pd r) = true := by
  obtain ⟨a, b, c, d, e, f⟩ := tp_all h.ent
  show SeqAt.shaped (.list (tpD r)) = true
  have h1 : PyData.canLay0 (.list (tpD r)) = true := by simp only [PyData.canLay0]; exact d
  have h2 : PyData.depth (.list (tpD r)) ≤ 64 := by simp only [PyData.depth]; omega
  unfold SeqAt.shaped
  rw [h1, Bool.true_and]
  exact decide_eq_true h2
theorem eqv_tp : ∀ l m : IL, PyData.eqvAll (tpD l) (tpD m) = decide (l = m)
  | [], [] => by simp [tpD, PyData.eqvAll]
  | [], q :: s => by simp [tpD, PyData.eqvAll]
  | p :: r, [] => by simp [tpD, PyData.eqvAll]
  | p :: r, q :: s => by
    have ih := eqv_tp r s
    have e1 : tpD (p :: r) = .tuple [.str p.1, .int p.2] :: tpD r := rfl
    have e2 : tpD (q :: s) = .tuple [.str q.1, .int q.2] :: tpD s := rfl
    rw [e1, e2]
    simp only [PyData.eqvAll, PyData.eqv, ih, Bool.and_true]
    rw [Bool.eq_iff_iff]
    simp only [Bool.and_eq_true, beq_iff_eq, decide_eq_true_eq, List.cons.injEq]
    constructor
    · rintro ⟨⟨a, b⟩, c⟩
      exact ⟨Prod.ext a b, c⟩
    · rintro ⟨a, c⟩
      rw [a]
      exact ⟨⟨rfl, rfl⟩, c⟩
theorem eqv_pd (l m : IL) : PyData.eqv (pd l) (pd m) = decide (l = m) := by
  show PyData.eqv (.list (tpD l)) (.list (tpD m)) = _
  simp only [PyData.eqv]
  exact eqv_tp l m
theorem pd_show {r : IL} (h : Shw r) : (pd r).showable = true ∧ (pd r).hasDict = false ∧ (pd r).depth ≤ 40 ∧ (pd r).shown.length ≤ sizeLine := by
  obtain ⟨a, b, c, d, e, f⟩ := tp_all h.ent
  have ln := h.len
  show (PyData.list (tpD r)).showable = true ∧ (PyData.list (tpD r)).hasDict = false ∧ (PyData.list (tpD r)).depth ≤ 40 ∧ (PyData.list (tpD r)).shown.length ≤ sizeLine
  refine ⟨by simp only [PyData.showable]; exact a, by simp only [PyData.hasDict]; exact b, by simp only [PyData.depth]; omega, ?_⟩
  have l := PyData.shown_le 423 (by decide) (.list (tpD r)) (PyData.leavesShort_of_canLay0 423 _ (by simp only [PyData.canLay0]; exact d) (by simp only [PyData.intsShort]; exact e))
  have w : (PyData.list (tpD r)).weight ≤ 30000 := by simp only [PyData.weight]; omega
  rw [sizeLine_eq]
  omega
theorem Asc.shw {l : IL} (h : Asc l) (z : l.length ≤ 60) : Shw l := ⟨fun p hp => ⟨h.ok p.1 (List.mem_map_of_mem hp), Nat.lt_trans (h.bd p hp) (by decide +kernel)⟩, z⟩
def pt (i : Int) : PyData := .tuple [.int 0, .int i]
theorem pt_show {i : Int} (h : i.natAbs.log2 < 1000) : (pt i).showable = true ∧ (pt i).hasDict = false ∧ (pt i).depth ≤ 40 ∧ (pt i).shown.length ≤ sizeLine := by
  have tl : (Str.ofString (toString i)).length ≤ 1001 := by
    rw [PySem.ofString_length]
    exact int_text_length_le (by decide) h
  have t0 : (Str.ofString (toString (0 : Int))).length ≤ 1001 := by decide +kernel
  have l0 : (0 : Int).natAbs.log2 = 0 := by decide
  refine ⟨?_, rfl, by unfold pt; simp only [PyData.depth, PyData.depthAll]; omega, ?_⟩
  · unfold pt
    simp only [PyData.showable, PyData.showableAll, Bool.and_true, Bool.and_eq_true]
    exact ⟨decide_eq_true (by omega), decide_eq_true (by omega)⟩
  have l := PyData.shown_le 1001 (by decide) (pt i) (PyData.leavesShort_of_canLay0 1001 _ (by unfold pt; simp only [PyData.canLay0, PyData.canLayAll0, Bool.and_self]) (by
    unfold pt
    simp only [PyData.intsShort, PyData.intsShortAll, Bool.and_true, Bool.and_eq_true]
    exact ⟨decide_eq_true t0, decide_eq_true tl⟩))
  have w : (pt i).weight ≤ 2004 := by
    unfold pt
    simp only [PyData.weight, PyData.weightAll]
    have w1 : (if (i == 0) = true then 0 else i.natAbs.log2 + 1) ≤ 1000 := by split <;> omega
    have w2 : (if ((0 : Int) == 0) = true then 0 else (0 : Int).natAbs.log2 + 1) ≤ 1000 := by decide
    omega
  rw [sizeLine_eq]
  omega
theorem pt_dp {K : PySem.W.Frag} {H : Hp} {p : Addr} {i : Int} (h : H p = some (.tup [.int 0, .int i])) : Dp K H (.ref p) (pt i) := .tup (SqT.of h) (.cons (.int _) (.cons (.int _) .nil))
theorem nat_log {i : Nat} (h : i ≤ 1000) : ((i : Nat) : Int).natAbs.log2 < 1000 := PySem.Flt.log2_lt_of (by decide) (Nat.lt_of_le_of_lt (show ((i : Nat) : Int).natAbs ≤ 1000 by omega) (by decide +kernel))
theorem due_small {t : Str} {i : Nat} (h : due t = .inl i) (few : (wordsOf t).length ≤ 60) : i ≤ 60 := by
  rw [due_is] at h
  generalize wordsOf t = ws at h few
  cases ws with
  | nil => cases h
  | cons x r =>
    unfold dueW at h
    simp only at h
    split at h
    · split at h
      · cases h
      · have := Sum.inl.inj h
        omega
    · have := scan_lt _ _ _ _ h
      omega
theorem due_asc {t : Str} {l : IL} (h : due t = .inr l) (few : (wordsOf t).length ≤ 60) : Asc l ∧ l.length ≤ 60 := by
  rw [due_is] at h
  generalize wordsOf t = ws at h few
  cases ws with
  | nil =>
    have := Sum.inr.inj h
    subst this
    exact ⟨asc_nil, Nat.zero_le _⟩
  | cons x r =>
    unfold dueW at h
    simp only at h
    split at h
    · split at h
      · have := Sum.inr.inj h
        subst this
        exact ⟨asc_nil, Nat.zero_le _⟩
      · cases h
    · have z := scan_asc _ _ _ _ asc_nil h
      rw [List.length_nil] at z
      exact ⟨z.1, by omega⟩
def spRight : Sp := fun vs H Q _ => ∃ t, vs = [.str t] ∧ t.length ≤ 90000 ∧ Fit t ∧ (wordsOf t).length ≤ 60 ∧ ∀ H', Same H H' → Q (.bl true) H'
section
variable {P : Program} {w : World} {K : PySem.W.Frag} {mg : Str → Option Value} {base : Heap}
theorem ok_law_heard_right (V : VF K mg) : FnG P w K mg base CX0 10 V.fLQ V.dLQ ["_law_text_so"] spRight := by
  have G_law_heard := ok_law_heard (P := P) (w := w) (base := base) V
  have G_law_due := ok_law_due (P := P) (w := w) (base := base) V
  refine fnG V.F_law_heard_right sc_law_heard_right (fun vs H Q E h => ?_) (fun cdv A outer s H vs Q E hg hr h => ?_)
  · obtain ⟨t, rfl, _⟩ := h
    rfl
  · obtain ⟨t, rfl, ht, fit, few, k⟩ := h
    have hu := hu_of hr
    have T := V.t
    refine ⟨_, (pss_cons (ps_set (i := 1) sc_law_heard_right.nd rfl (Or.inl rfl) (pe_call G_law_due (hr.mono (by decide)) (by rfl) V.g_law_due V.F_law_due.kp V.b_law_due .nil pass0 (pa_cons (pv 0) pa_nil)))
      (pss_one (ps_ret (pe_cmpR op_eq (pe_callB (call_repr hg (hr.units)) (by rfl) T.repr (by decide +kernel) (pa_cons (pe_call G_law_heard (hr.mono (by decide)) (by rfl) V.g_law_heard V.F_law_heard.kp V.b_law_heard .nil pass0 (pa_cons (pv 0) pa_nil)) pa_nil)) (pe_callB (call_repr hg (hr.units)) (by rfl) T.repr (by decide +kernel) (pa_cons (pe_ifExp (pt_val (pe_callB call_isi (by rfl) T.isinstance (by decide +kernel) (pa_cons (pv 1) (pa_cons (pe_bltn (v := .ty "list") (u := .type "list") (by rfl) T.list (by decide +kernel) rfl) pa_nil)))) (pv 1) (pe_tup (pa_cons pe_int (pa_cons (pv 1) pa_nil)))) pa_nil)) (nomark _))))), ?_⟩
    try dsimp only [cxOf]
    rw [show L2.start N_law_heard_right [.str t] = [some (.str t), none] from rfl]
    cases du : due t with
    | inr l =>
      obtain ⟨asc, few2⟩ := due_asc du few
      have sh := pd_show (asc.shw few2)
      walk_at "hgo"
      refine ⟨t, rfl, ht, fit, few, fun i H' e => (by rw [du] at e; cases e), fun l' p H1 e hp s1 R1 => ?_⟩
      have el : l = l' := by rw [du] at e; exact Sum.inr.inj e
      subst el
      walk_at "hgo"
      refine ⟨.str t, rfl, .inl ⟨t, rfl, ht, few, fun l' p2 H2 e a2 f2 hp2 s2 R2 => ?_, fun i p2 H2 e => (by rw [du] at e; cases e)⟩⟩
      have el : l = l' := by rw [du] at e; exact Sum.inr.inj e
      subst el
      walk_at "hgo"
      refine g_repr (pd l) R2.dp sh ?_
      walk_at "hgo"
      obtain ⟨ts, q1, q2⟩ := R1.same s2
      refine g_isi (n := "list") (.base (.lst q1)) (b := true) (by decide +kernel) ?_
      walk_at "hgo"
      refine g_repr (pd l) (R1.same s2).dp sh ?_
      walk_at "hgo"
      rw [decide_eq_true (Eq.refl (L2.V.str (pd l).shown))]
      exact k H2 (same_trans s1 s2)
    | inl i =>
      have i60 := due_small du few
      have sh := pt_show (nat_log (i := i) (by omega))
      walk_at "hgo"
      refine ⟨t, rfl, ht, fit, few, fun i' H1 e s1 => ?_, fun l p H' e => (by rw [du] at e; cases e)⟩
      have ei : i = i' := by rw [du] at e; exact Sum.inl.inj e
      subst ei
      walk_at "hgo"
      refine ⟨.str t, rfl, .inl ⟨t, rfl, ht, few, fun l p2 H2 e => (by rw [du] at e; cases e), fun i' p2 H2 e hp2 s2 e2 => ?_⟩⟩
      have ei : i = i' := by rw [du] at e; exact Sum.inl.inj e
      subst ei
      walk_at "hgo"
      refine g_repr (pt (i : Nat)) (pt_dp e2) sh ?_
      walk_at "hgo"
      refine g_isi (n := "int") (.base (.int _)) (b := false) (by decide +kernel) ?_
      walk_at "hgo"
      intro p3 hp3
      walk_at "hgo"
      refine g_repr (pt (i : Nat)) (pt_dp upd_same) sh ?_
      walk_at "hgo"
      rw [decide_eq_true (Eq.refl (L2.V.str (pt (i : Nat)).shown))]
      exact k _ (same_trans (same_trans s1 s2) (same_new hp3))
end

theorem joinL_len : ∀ ps : List (List Nat), (TL.joinL [32] ps).length ≤ (ps.map List.length).sum + ps.length
  | [] => Nat.zero_le _
  | [p] => by
    show p.length ≤ _
    simp
  | p :: q :: r => by
    have ih := joinL_len (q :: r)
    show (p ++ ([32] ++ TL.joinL [32] (q :: r))).length ≤ _
    rw [List.length_append, List.length_append, List.length_singleton, List.map_cons, List.sum_cons, List.length_cons (a := p)]
    omega
theorem joinL_count : ∀ ps : List (List Nat), (TL.joinL [32] ps).count 32 ≤ (ps.map (List.count 32)).sum + (ps.length - 1)
  | [] => Nat.zero_le _
  | [p] => by
    show p.count 32 ≤ _
    simp
  | p :: q :: r => by
    have ih := joinL_count (q :: r)
    show (p ++ ([32] ++ TL.joinL [32] (q :: r))).count 32 ≤ _
    rw [List.count_append, List.count_append, List.map_cons, List.sum_cons, List.length_cons (a := p)]
    have : List.count 32 [32] = 1 := by decide
    have l : 1 ≤ (q :: r).length := by rw [List.length_cons]; omega
    omega
theorem joinL_mem : ∀ {ps : List (List Nat)} {c : Nat}, c ∈ TL.joinL [32] ps → c = 32 ∨ ∃ p ∈ ps, c ∈ p
  | [], c, h => by cases h
  | [p], c, h => .inr ⟨p, List.mem_singleton_self _, h⟩
  | p :: q :: r, c, h => by
    have h' : c ∈ p ++ ([32] ++ TL.joinL [32] (q :: r)) := h
    rcases List.mem_append.mp h' with z | z
    · exact .inr ⟨p, List.mem_cons_self, z⟩
    · rcases List.mem_append.mp z with z | z
      · exact .inl (List.mem_singleton.mp z)
      · rcases joinL_mem z with y | ⟨x, hx, y⟩
        · exact .inl y
        · exact .inr ⟨x, List.mem_cons_of_mem _ hx, y⟩
theorem sum_bound {α : Type} (f : α → Nat) {n : Nat} : ∀ {xs : List α}, (∀ x ∈ xs, f x ≤ n) → (xs.map f).sum ≤ xs.length * n
  | [], _ => Nat.zero_le _
  | x :: r, h => by
    have a := sum_bound f (xs := r) fun y hy => h y (List.mem_cons_of_mem _ hy)
    have b := h x List.mem_cons_self
    rw [List.map_cons, List.sum_cons, List.length_cons, Nat.add_mul, Nat.one_mul]
    omega
/-- a joined text -/
def joinT (us : List Str) : Str := Txt.join (Str.ofString " ") us
theorem joinT_tl (us : List Str) : TL.tl (joinT us) = TL.joinL [32] (us.map TL.tl) := by
  unfold joinT
  rw [TL.join_eq, TL.tl_join, space_tl]
structure TextOk (t : Str) : Prop where
  len : t.length ≤ 90000
  fit : Fit t
  few : (wordsOf t).length ≤ 60
theorem joinT_ok {us : List Str} {n : Nat} (hn : n ≤ 2) (l : us.length ≤ 10) (h : ∀ w ∈ us, WordOk n w) : TextOk (joinT us) := by
  refine ⟨?_, fun c hc => ?_, ?_⟩
  · rw [TL.len_tl, joinT_tl]
    have a := joinL_len (us.map TL.tl)
    have b := sum_bound List.length (n := 300) (xs := us.map TL.tl) fun x hx => by
      obtain ⟨w, hw, rfl⟩ := List.mem_map.mp hx
      have := (h w hw).len
      rw [TL.len_tl] at this
      omega
    rw [List.length_map] at a b
    have : us.length * 300 ≤ 10 * 300 := Nat.mul_le_mul_right _ l
    omega
  · rw [joinT_tl] at hc
    rcases joinL_mem hc with z | ⟨p, hp, z⟩
    · rw [z]; decide
    · obtain ⟨w, hw, rfl⟩ := List.mem_map.mp hp
      exact (h w hw).fit c z
  · rw [words_len, joinT_tl]
    have a := joinL_count (us.map TL.tl)
    have b := sum_bound (List.count 32) (n := 2) (xs := us.map TL.tl) fun x hx => by
      obtain ⟨w, hw, rfl⟩ := List.mem_map.mp hx
      have := (h w hw).sp
      omega
    rw [List.length_map] at a b
    have : us.length * 2 ≤ 10 * 2 := Nat.mul_le_mul_right _ l
    omega
theorem joinT_size {us : List Str} {n : Nat} (hn : n ≤ 2) (l : us.length ≤ 10) (h : ∀ w ∈ us, WordOk n w) : (us.map (·.length)).sum + us.length * (Str.ofString " ").length ≤ 16777216 := by
  have b := sum_bound (fun w : Str => w.length) (n := 300) (xs := us) fun w hw => by
    have := (h w hw).len
    omega
  have e : (Str.ofString " ").length = 1 := by decide +kernel
  rw [e]
  have : us.length * 300 ≤ 10 * 300 := Nat.mul_le_mul_right _ l
  omega
/-! the text of a vector is read back -/
structure Box (l : IL) : Prop where
  ok : okL l
  nz : ∀ p ∈ l, p.2 ≠ 0
  bd : ∀ p ∈ l, p.2.natAbs < 10 ^ 60
theorem empty_add (k : Str) : Str.empty ++ k = k := TL.ext_tl (by rw [TL.tl_append]; rfl)
theorem entry_is (k : Str) (i : Int) : entry k i = k ++ Str.ofString "=" ++ Str.ofString (toString i) := by
  unfold entry
  rw [empty_add]
theorem okS_mem {k : Str} (h : okS k = true) : ∀ c ∈ TL.tl k, 97 ≤ c ∧ c < 123 := by
  unfold okS at h
  simp only [Bool.and_eq_true, List.all_eq_true, decide_eq_true_eq] at h
  exact fun c hc => (mem_letters c).mp (h.2 c hc)
theorem okS_pos {k : Str} (h : okS k = true) : 0 < k.length := by
  unfold okS at h
  simp only [Bool.and_eq_true, decide_eq_true_eq] at h
  exact h.1.1.1
theorem int_mem (v : Int) : ∀ c ∈ TL.tl (Str.ofString (toString v)), c = 45 ∨ (48 ≤ c ∧ c ≤ 57) := by
  intro c hc
  rw [tl_int] at hc
  have d := TL.numL_digits v.natAbs
  split at hc
  · rcases List.mem_cons.mp hc with z | z
    · exact .inl z
    · exact .inr (d c z)
  · exact .inr (d c hc)
theorem int_len {v : Int} (h : v.natAbs < 10 ^ 60) : (Str.ofString (toString v)).length ≤ 61 := by
  rw [TL.len_tl, tl_int]
  have := TL.numL_len (n := v.natAbs) (k := 60) (by decide) h
  split
  · rw [List.length_cons]; omega
  · omega
theorem entry_tl (k : Str) (i : Int) : TL.tl (entry k i) = TL.tl k ++ 61 :: TL.tl (Str.ofString (toString i)) := by
  rw [entry_is, TL.tl_append, TL.tl_append, equal_tl, List.append_assoc]
  rfl
theorem entry_word {k : Str} {i : Int} (hk : okS k = true) (hi : i.natAbs < 10 ^ 60) : WordOk 0 (entry k i) := by
  have h1 := okS_len hk
  have h2 := int_len hi
  have m : ∀ c ∈ TL.tl (entry k i), c ≠ 32 ∧ c < 128 := fun c hc => by
    rw [entry_tl] at hc
    rcases List.mem_append.mp hc with z | z
    · have := okS_mem hk c z; omega
    · rcases List.mem_cons.mp z with z | z
      · omega
      · have := int_mem i c z; omega
  refine ⟨?_, ?_, fun c hc => (m c hc).2⟩
  · rw [TL.len_tl, entry_tl, List.length_append, List.length_cons, ← TL.len_tl, ← TL.len_tl]
    omega
  · have : List.count 32 (TL.tl (entry k i)) = 0 := List.count_eq_zero.mpr fun z => (m 32 z).1 rfl
    omega
theorem entry_good {k last : Str} {i : Int} (hk : okS k = true) (hl : lt last k) (nz : i ≠ 0) (hi : i.natAbs < 10 ^ 60) : good last (entry k i) = some (k, i) := by
  obtain ⟨nb, nv⟩ := num_back nz hi
  have p : part (entry k i) = (k, Str.ofString "=", Str.ofString (toString i)) := by
    unfold part
    rw [entry_is]
    exact TL.partition_app equal_tl fun m => by have := okS_mem hk 61 m; omega
  have g := good_yes (last := last) (w := entry k i) (by rw [p]; exact hk) (by rw [p]; exact hl) (by rw [p]; exact nb)
  rw [g, p]
  show some (k, numV (Str.ofString (toString i))) = _
  rw [nv]
theorem lt_empty {k : Str} (h : okS k = true) : lt (Str.ofString "") k := by
  have e : TL.tl (Str.ofString "") = [] := by decide +kernel
  have p := okS_pos h
  rw [TL.len_tl] at p
  show TL.tl (Str.ofString "") < TL.tl k
  rw [e]
  generalize TL.tl k = l at p
  cases l with
  | nil => cases p
  | cons a r => exact List.nil_lt_cons a r
theorem scan_back : ∀ (r l : IL) (i : Nat), (ks (l ++ r)).Pairwise lt → Box (l ++ r) → scan (List.map (fun p : Str × Int => entry p.1 p.2) r) i l = .inr (l ++ r)
  | [], l, i, _, _ => by rw [List.append_nil]; rfl
  | p :: r, l, i, a, b => by
    have hp : p ∈ l ++ p :: r := List.mem_append_right _ List.mem_cons_self
    have hk : okS p.1 = true := b.ok p.1 (List.mem_map_of_mem hp)
    have hl : lt (lastI l) p.1 := by
      cases e : l.getLast? with
      | none =>
        have : lastI l = Str.ofString "" := by unfold lastI; rw [e]; rfl
        rw [this]
        exact lt_empty hk
      | some q =>
        have : lastI l = q.1 := by unfold lastI; rw [e]; rfl
        rw [this]
        have m : q ∈ l := List.mem_of_getLast? e
        have a' : (ks l ++ ks (p :: r)).Pairwise lt := by
          have : ks (l ++ p :: r) = ks l ++ ks (p :: r) := by unfold ks; rw [List.map_append]
          rw [← this]; exact a
        exact (List.pairwise_append.mp a').2.2 q.1 (List.mem_map_of_mem m) p.1 (List.mem_map_of_mem List.mem_cons_self)
    have g := entry_good hk hl (b.nz p hp) (b.bd p hp)
    have e : l ++ p :: r = (l ++ [p]) ++ r := by rw [List.append_assoc]; rfl
    rw [List.map_cons]
    show (match good (lastI l) (entry p.1 p.2) with
      | none => Sum.inl i
      | some p => scan (List.map (fun p : Str × Int => entry p.1 p.2) r) (i + 1) (l ++ [p])) = _
    rw [g]
    show scan (List.map (fun p : Str × Int => entry p.1 p.2) r) (i + 1) (l ++ [p]) = _
    rw [e] at a b ⊢
    exact scan_back r (l ++ [p]) (i + 1) a b
/-- the words that the law writes -/
def wordsL (r : IL) : List Str := if r = [] then [Str.ofString "0"] else List.map (fun p : Str × Int => entry p.1 p.2) r
theorem words_list {r : IL} (n : (ks r).Nodup) : K5.words r = List.map (fun p : Str × Int => entry p.1 p.2) r := by
  show ((r.map (·.1)).map fun k => entry k (vl r k)) = _
  rw [List.map_map]
  refine List.map_congr_left fun p hp => ?_
  show entry p.1 (vl r p.1) = entry p.1 p.2
  rw [vl_mem n hp]
theorem textOf_is {r : IL} (n : (ks r).Nodup) : textOf r = joinT (wordsL r) := by
  unfold textOf wordsL joinT
  by_cases e : r = []
  · rw [if_pos e, if_pos e]
    rw [TL.join_eq]
    rfl
  · rw [if_neg e, if_neg e, words_list n]
theorem wordsL_ok {r : IL} (b : Box r) : ∀ w ∈ wordsL r, WordOk 0 w := by
  intro w hw
  unfold wordsL at hw
  split at hw
  · rw [List.mem_singleton.mp hw]
    refine ⟨by decide +kernel, by decide +kernel, fun c hc => ?_⟩
    rw [zero_tl] at hc
    rw [List.mem_singleton.mp hc]
    decide
  · obtain ⟨p, hp, rfl⟩ := List.mem_map.mp hw
    exact entry_word (b.ok p.1 (List.mem_map_of_mem hp)) (b.bd p hp)
theorem wordsL_ne (r : IL) : wordsL r ≠ [] := by
  unfold wordsL
  split
  · exact List.cons_ne_nil _ _
  · rename_i h
    exact fun e => h (List.map_eq_nil_iff.mp e)
theorem wordsL_len {r : IL} {n : Nat} (h : r.length ≤ n) (h1 : 1 ≤ n) : (wordsL r).length ≤ n := by
  unfold wordsL
  split
  · exact h1
  · rw [List.length_map]; exact h
theorem words_back {us : List Str} (ne : us ≠ []) (h : ∀ w ∈ us, WordOk 0 w) : wordsOf (joinT us) = us :=
  TL.split_join space_tl (kind1 space_tl (by decide)) ne fun p hp m => by
    have := (h p hp).sp
    have z : 0 < (TL.tl p).count 32 := List.count_pos_iff.mpr m
    omega
theorem due_back {r : IL} (c : Can r) (b : Box r) : due (joinT (wordsL r)) = .inr r := by
  rw [due_is, words_back (wordsL_ne r) (wordsL_ok b)]
  unfold wordsL
  by_cases e : r = []
  · rw [if_pos e, e]
    have : dueW [Str.ofString "0"] = .inr [] := by decide +kernel
    exact this
  · rw [if_neg e]
    have s := scan_back r [] 0 c.asc b
    cases r with
    | nil => exact absurd rfl e
    | cons p t =>
      rw [List.map_cons] at s ⊢
      have n0 : entry p.1 p.2 ≠ Str.ofString "0" := fun z => by
        have q := congrArg List.length (congrArg TL.tl z)
        rw [entry_tl, zero_tl, List.length_append, List.length_cons, List.length_singleton] at q
        have := okS_pos (b.ok p.1 (List.mem_map_of_mem List.mem_cons_self))
        rw [TL.len_tl] at this
        omega
      show (if entry p.1 p.2 = Str.ofString "0" then _ else scan (entry p.1 p.2 :: List.map (fun p : Str × Int => entry p.1 p.2) t) 0 []) = _
      rw [if_neg n0]
      exact s

def spLaw (K : PySem.W.Frag) : Sp := fun vs H Q _ => ∃ (a : Addr) (ns : List Int), vs = [.ref a] ∧ SqL K H a (ns.map L2.V.int) ∧ ns.length ≤ 63 ∧ ∀ H', Q (.bl true) H'
theorem g_cmeth {C : Addr} {sp : Sp} {E : XK} {ta : TE} {t : TA} {σ : L2.St} {H : Hp} {Q : VK} (h : ta σ H fun x H1 => x = .ref C ∧ t σ H1 fun vs H2 => sp (.ref C :: vs) H2 Q E) : tCMeth C sp E ta t σ H Q := h
theorem g_cmK {C : Addr} {sp : Sp} {gV : List L2.V → List L2.V → List L2.V} {E : XK} {ta : TE} {tk : TA} {σ : L2.St} {H : Hp} {Q : VK} (h : ta σ H fun x H1 => x = .ref C ∧ tk σ H1 fun zs H2 => sp (gV [.ref C] zs) H2 Q E) : tCMethK C sp gV E ta tk σ H Q := h
theorem g_newK {C : Addr} {ks : List Str} {sp : SpK} {E : XK} {tk : TA} {σ : L2.St} {H : Hp} {Q : VK} (h : tk σ H fun zs H1 => zs.length = ks.length ∧ InsQ C sp [] (ks.zip zs) H1 Q E) : tNewK C ks sp E tk σ H Q := h
theorem g_par {i j : Nat} {ta : TA} {D : Ends} {σ : L2.St} {H : Hp} (h : ta σ H fun vs H1 => ∃ v w, vs = [v, w] ∧ D.nx ((σ.set i (some v)).set j (some w)) H1) : tPar i j ta D σ H := h
theorem dp_strs {K : PySem.W.Frag} {H : Hp} : ∀ l : List Str, DpAll K H (l.map L2.V.str) (l.map PyData.str)
  | [] => .nil
  | c :: r => .cons (.str _) (dp_strs r)
theorem shaped_strs0 : ∀ l : List Str, (∀ c ∈ l, PyData.strOk c = true) → PyData.canLayAll0 (l.map PyData.str) = true ∧ PyData.depthAll (l.map PyData.str) ≤ 1
  | [], _ => by simp [PyData.canLayAll0, PyData.depthAll]
  | c :: r, h => by
    have ih := shaped_strs0 r fun x hx => h x (List.mem_cons_of_mem _ hx)
    have hc := h c List.mem_cons_self
    rw [List.map_cons]
    simp only [PyData.canLayAll0, PyData.canLay0, PyData.depthAll, PyData.depth]
    refine ⟨?_, by omega⟩
    rw [ih.1, Bool.and_true]
    exact hc
theorem shaped_strs {l : List Str} (h : ∀ c ∈ l, PyData.strOk c = true) : SeqAt.shaped (.list (l.map PyData.str)) = true := by
  have s := shaped_strs0 l h
  have h1 : PyData.canLay0 (.list (l.map PyData.str)) = true := by
    simp only [PyData.canLay0]
    exact s.1
  have h2 : PyData.depth (.list (l.map PyData.str)) ≤ 64 := by
    simp only [PyData.depth]
    omega
  unfold SeqAt.shaped
  rw [h1, Bool.true_and]
  exact decide_eq_true h2
theorem eqv_strs (l : List Str) : PyData.eqv (.list (l.map PyData.str)) (.list []) = decide (l = []) := by
  cases l with
  | nil => simp [PyData.eqv, PyData.eqvAll]
  | cons a r => simp [PyData.eqv, PyData.eqvAll]
/-- the box while it is filled -/
structure Fill (l : IL) (n : Nat) : Prop where
  nd : (ks l).Nodup
  ok : okL l
  nz : ∀ k ∈ ks l, vl l k ≠ 0
  bd : ∀ k, (vl l k).natAbs < 10 ^ 60
  len : l.length ≤ n
theorem Fill.put {l : IL} {n : Nat} {x : Str} {i : Int} (f : Fill l n) (hx : okS x = true) (hi : i ≠ 0) (hb : i.natAbs < 10 ^ 60) : Fill (putI l x i) (n + 1) := by
  refine ⟨ks_put_nodup f.nd, fun k hk => ?_, fun k hk => ?_, fun k => ?_, ?_⟩
  · rcases ks_put_mem.mp hk with z | z
    · exact f.ok k z
    · rw [z]; exact hx
  · rw [vl_put]
    split
    · exact hi
    · rename_i q
      rcases ks_put_mem.mp hk with z | z
      · exact f.nz k z
      · exact absurd z q
  · rw [vl_put]
    split
    · exact hb
    · exact f.bd k
  · have := put_len (l := l) (k := x) (i := i)
    have := f.len
    omega
/-- the canonical list of a box -/
structure Row (l r : IL) : Prop where
  can : Can r
  box : Box r
  vl : ∀ k, vl r k = vl l k
  len : r.length ≤ 6
theorem row_of {l : IL} {ys : List Str} (f : Fill l 6) (perm : ys.Perm (ks l)) (srt : sortedS ys = true) : Row l (ys.map fun k => (k, vl l k)) := by
  have ny : ys.Nodup := perm.nodup_iff.mpr f.nd
  have kr : ks (ys.map fun k => (k, vl l k)) = ys := by
    unfold ks
    rw [List.map_map]
    exact List.map_id _
  have nz : ∀ p ∈ ys.map fun k => (k, vl l k), p.2 ≠ 0 := fun p hp => by
    obtain ⟨k, hk, rfl⟩ := List.mem_map.mp hp
    exact f.nz k (perm.mem_iff.mp hk)
  refine ⟨⟨by rw [kr]; exact sorted_pw srt ny, nz⟩, ⟨fun k hk => ?_, nz, fun p hp => ?_⟩, fun k => ?_, ?_⟩
  · rw [kr] at hk
    exact f.ok k (perm.mem_iff.mp hk)
  · obtain ⟨k, hk, rfl⟩ := List.mem_map.mp hp
    exact f.bd k
  · by_cases z : k ∈ ys
    · exact vl_mem (p := (k, vl l k)) (by rw [kr]; exact ny) (List.mem_map_of_mem (f := fun k => (k, vl l k)) z)
    · rw [vl_none (by rw [kr]; exact z), vl_none fun w => z (perm.mem_iff.mpr w)]
  · rw [List.length_map, perm.length_eq, ks_len]
    exact f.len
theorem row_nil : Row [] [] := ⟨⟨.nil, fun _ h => (nomatch h)⟩, ⟨fun _ h => (nomatch h), fun _ h => (nomatch h), fun _ h => (nomatch h)⟩, fun _ => rfl, Nat.zero_le _⟩
theorem big60 {i : Int} (h : i.natAbs < 10 ^ 60) : i.natAbs < 2 ^ 1000 := Nat.lt_trans h (by decide +kernel)
theorem Pen.past {H : Hp} {q p : Addr} {b : Nat} {kvs : List (Key × L2.V)} {u : HO} (P : Pen H q b) (hp : H p = some (.dK kvs)) : Pen (upd H p u) q b := by
  obtain ⟨c, ns, z, left, h1, h2, r⟩ := P
  refine ⟨c, ns, z, left, ?_, ?_, r⟩
  · rw [upd_ne (fun e => by rw [e, hp] at h1; cases h1)]
    exact h1
  · rw [upd_ne (fun e => by rw [e, hp] at h2; cases h2)]
    exact h2
def noNum (l : IL) : Bool := !((DI l).length == (DI []).length && (DI l).all (hitI (DI [])))
theorem noNum_nil : noNum [] = false := rfl
theorem noNum_cons {l : IL} (h : l ≠ []) : noNum l = true := by
  cases l with
  | nil => exact absurd rfl h
  | cons p r => rfl
def one1 (i : Int) : IL := [(Str.ofString "a", i)]
theorem one_ok (i : Int) : okL (one1 i) := fun k h => by
  rcases List.mem_cons.mp (show k ∈ [Str.ofString "a"] from h) with e | e
  · rw [e]; decide +kernel
  · cases e
theorem one_nd (i : Int) : (ks (one1 i)).Nodup := List.nodup_cons.mpr ⟨List.not_mem_nil, List.nodup_nil⟩
theorem ns_of {K : PySem.W.Frag} {H : Hp} {x : L2.V} (n : String) (ty : TyX K H x (.type n)) (h : kitB n "str" = some false) : NotS K H x := ⟨.type n, ty, kit_ty h⟩
def NS (K : PySem.W.Frag) (H : Hp) (x : L2.V) : Prop := ∀ H', Same H H' → NotS K H' x
def Ob (D : Addr) (H : Hp) (t : Addr) : Nat ⊕ IL → Prop
  | .inl i => H t = some (.tup [.int 0, .int (i : Nat)])
  | .inr l => l = [] ∧ t ≠ D ∧ H t = some (.lst [])
inductive Obs (D : Addr) (H : Hp) : List Addr → List (Nat ⊕ IL) → Prop
  | nil : Obs D H [] []
  | cons {t : Addr} {ts : List Addr} {o : Nat ⊕ IL} {os : List (Nat ⊕ IL)} : Ob D H t o → Obs D H ts os → Obs D H (t :: ts) (o :: os)
theorem Ob.same {D : Addr} {H H' : Hp} (s : Same H H') {t : Addr} : ∀ {o : Nat ⊕ IL}, Ob D H t o → Ob D H' t o
  | .inl _, h => s _ _ h
  | .inr _, ⟨a, b, c⟩ => ⟨a, b, s _ _ c⟩
theorem Obs.same {D : Addr} {H H' : Hp} (s : Same H H') : ∀ {ts : List Addr} {os : List (Nat ⊕ IL)}, Obs D H ts os → Obs D H' ts os
  | _, _, .nil => .nil
  | _, _, .cons h r => .cons (h.same s) (r.same s)
theorem Obs.snoc {D : Addr} {H : Hp} {t : Addr} {o : Nat ⊕ IL} (h : Ob D H t o) : ∀ {ts : List Addr} {os : List (Nat ⊕ IL)}, Obs D H ts os → Obs D H (ts ++ [t]) (os ++ [o])
  | _, _, .nil => .cons h .nil
  | _, _, .cons h1 r => .cons h1 (r.snoc h)
theorem Ob.past {D : Addr} {H : Hp} {xs : List L2.V} {u : HO} (hD : H D = some (.lst xs)) {t : Addr} : ∀ {o : Nat ⊕ IL}, Ob D H t o → Ob D (upd H D u) t o
  | .inl _, h => by
    have n : t ≠ D := fun e => by
      have h' : H t = some (.tup _) := h
      rw [e, hD] at h'
      cases h'
    show upd H D u t = _
    rw [upd_ne n]
    exact h
  | .inr _, ⟨a, b, c⟩ => ⟨a, b, by rw [upd_ne b]; exact c⟩
theorem Obs.past {D : Addr} {H : Hp} {xs : List L2.V} {u : HO} (hD : H D = some (.lst xs)) : ∀ {ts : List Addr} {os : List (Nat ⊕ IL)}, Obs D H ts os → Obs D (upd H D u) ts os
  | _, _, .nil => .nil
  | _, _, .cons h r => .cons (h.past hD) (r.past hD)
theorem Obs.len {D : Addr} {H : Hp} : ∀ {ts : List Addr} {os : List (Nat ⊕ IL)}, Obs D H ts os → ts.length = os.length
  | _, _, .nil => rfl
  | _, _, .cons _ r => congrArg (· + 1) r.len
def outD : Nat ⊕ IL → PyData
  | .inl i => pt (i : Nat)
  | .inr l => pd l
theorem Ob.dp {K : PySem.W.Frag} {D : Addr} {H : Hp} {t : Addr} : ∀ {o : Nat ⊕ IL}, Ob D H t o → Dp K H (.ref t) (outD o)
  | .inl _, h => pt_dp h
  | .inr l, ⟨a, _, c⟩ => by
    subst a
    exact .lst (SqL.of c) .nil
theorem Obs.dp {K : PySem.W.Frag} {D : Addr} {H : Hp} : ∀ {ts : List Addr} {os : List (Nat ⊕ IL)}, Obs D H ts os → DpAll K H (ts.map L2.V.ref) (os.map outD)
  | _, _, .nil => .nil
  | _, _, .cons h r => .cons h.dp r.dp
def texts : List Str := [Str.ofString "", Str.ofString "0", Str.ofString "0 a=1", Str.ofString "a=1 0", Str.ofString " ", Str.ofString "a=1 ", Str.ofString "b=1 a=1", Str.ofString "a=1 a=2"]
def outs : List (Nat ⊕ IL) := [.inl 0, .inr [], .inl 1, .inl 1, .inl 0, .inl 1, .inl 1, .inl 1]
theorem texts_due : texts.map due = outs := by decide +kernel
theorem texts_ok : ∀ t ∈ texts, t.length ≤ 90000 ∧ (wordsOf t).length ≤ 60 := by decide +kernel
section
variable {P : Program} {w : World} {K : PySem.W.Frag} {mg : Str → Option Value} {base : Heap}
theorem k_str (V : VF K mg) : FnOk P w K mg base CX0 3 V.fST V.dST ["self"] (spStr V.C) := ok_str V.F_str V.t V.c_V V.n_num (ok_vector_text V.F_vector_text V.t V.F_numbers_text V.b_numbers_text V.g_numbers_text) V.F_vector_text V.b_vector_text V.g_vector_text
set_option maxHeartbeats 40000000 in
theorem ok_law (V : VF K mg) {f : Addr} {fd : FuncData} (F : Fun K "law" "law" s_law f fd) : FnG P w K mg base CX0 12 f fd ["_law_script"] (spLaw K) := by
  have G_law_pen := k_law_pen (P := P) (w := w) (base := base) V
  have G_law_draw := k_law_draw (P := P) (w := w) (base := base) V
  have G_law_word := ok_law_word (P := P) (w := w) (base := base) V
  have G_law_whole := ok_law_whole (P := P) (w := w) (base := base) V
  have G_law_bent := ok_law_bent (P := P) (w := w) (base := base) V
  have G_law_heard := ok_law_heard (P := P) (w := w) (base := base) V
  have G_law_heard_right := ok_law_heard_right (P := P) (w := w) (base := base) V
  have G_init := k_init (P := P) (w := w) (base := base) V
  have G_of := (ok_of (P := P) (w := w) (base := base) V).raw V.b_of .nil
  have G_readK := ok_read (P := P) (w := w) (base := base) V
  have G_eq := (ok_eq (P := P) (w := w) (base := base) V).raw V.b_eq .nil
  have G_str := (k_str (P := P) (w := w) (base := base) V).raw V.b_str .nil
  refine fnG F sc_law (fun vs H Q E h => ?_) (fun cdv A outer s H vs Q E hg hr h => ?_)
  · obtain ⟨a, ns, rfl, _⟩ := h
    rfl
  · obtain ⟨a, ns, rfl, hS, len, k⟩ := h
    have hu := hu_of hr
    have T := V.t
    refine ⟨_, (pss_cons (ps_set (i := 1) sc_law.nd rfl (Or.inl rfl) (pe_call G_law_pen (hr.mono (by decide)) (by rfl) V.g_law_pen V.F_law_pen.kp V.b_law_pen .nil pass0 (pa_cons (pv 0) pa_nil)))
      (pss_cons (ps_for PassesOwn.never rfl (pi_range1 rfl T.range (pa_cons pe_int pa_nil)) (pg_name (i := 2) sc_law.nd rfl (Or.inl rfl)) (pss_cons (ps_set (i := 3) sc_law.nd rfl (Or.inr rfl) pe_dnewK)
      (pss_cons (ps_for PassesOwn.never rfl (pi_range1 rfl T.range (pa_cons (pe_call G_law_draw (hr.mono (by decide)) (by rfl) V.g_law_draw V.F_law_draw.kp V.b_law_draw .nil pass0 (pa_cons (pv 1) (pa_cons pe_int pa_nil))) pa_nil)) (pg_name (i := 4) sc_law.nd rfl (Or.inl rfl)) (pss_cons (ps_set (i := 5) sc_law.nd rfl (Or.inl rfl) (pe_call G_law_word (hr.mono (by decide)) (by rfl) V.g_law_word V.F_law_word.kp V.b_law_word .nil pass0 (pa_cons (pv 1) pa_nil)))
      (pss_one (ps_dput hu (pv 3) (pv 5) (pe_call G_law_whole (hr.mono (by decide)) (by rfl) V.g_law_whole V.F_law_whole.kp V.b_law_whole .nil pass0 (pa_cons (pv 1) pa_nil)) rfl))))
      (pss_cons (ps_set (i := 6) sc_law.nd rfl (Or.inl rfl) (pe_ifExp (pt_cmpR (op_neDI (hr.units0)) (pv 3) pe_dnewK (nomark _)) (pe_lc (own := [("_law_label", 5)]) (g := gName 5) rfl sc_law.nd (pi_list (pe_callB (call_sortedD rfl) (by rfl) T.sorted (by decide +kernel) (pa_cons (pv 3) pa_nil))) (blkOk_by (own := [("_law_label", 5)]) (N := N_law) (sc := defScope s_law) (by decide +kernel)) (fun _ _ _ _ _ => pg_name (i := 5) sc_law.nd rfl (Or.inl rfl)) (fun _ _ _ _ _ => pts_nil) (fun _ _ _ _ _ => (pe_op op_addS (pe_op op_addS (pv 5) pe_str) (pe_callTy call_strI (by rfl) T.str (by decide +kernel) (pa_cons (pe_dget hu (pv 3) (pv 5) (fun _ _ => rfl)) pa_nil))))) (pe_lst (pa_cons pe_str pa_nil))))
      (pss_cons (ps_par (i := 7) (j := 8) (by rfl) sc_law.nd rfl rfl (by decide) rfl rfl (pa_cons (pe_cmeth (pe_glob (v := .ref V.C) rfl V.g_Vector rfl) V.rd_V V.cm_of G_of (hr.mono (by decide)) pass0 (pa_cons (pv 3) pa_nil)) (pa_cons (pe_joinJ pe_str (pv 6)) pa_nil)) (by rfl))
      (pss_cons (ps_if (PW.pt (pw_or (pt_cmpR op_ne (pe_callTy (call_strO V.O_str G_str (hr.mono (by decide)) pass0) (by rfl) T.str (by decide +kernel) (pa_cons (pv 7) pa_nil)) (pv 8) (nomark _)) (pw_or (pt_cmpR (op_neO V.O_eq V.ne_V V.cm G_eq (hr.mono (by decide)) pass0) (pe_cmethKw (pe_glob (v := .ref V.C) rfl V.g_Vector rfl) V.rd_V V.cm_read G_readK (hr.mono (by decide)) V.kb_read passL (pk_cons (pv 8) pk_nil)) (pv 7) (nomark _)) (pw_or1 (pt_not (pt_val (pe_callG G_law_heard_right hg (hr.mono (by decide)) (by rfl) V.g_law_heard_right V.F_law_heard_right.kp V.b_law_heard_right .nil pass0 (pa_cons (pv 8) pa_nil)))))))) (pss_one (ps_ret pe_bl)) pss_nil)
      (pss_one (ps_for PassesOwn.never rfl (pi_range1 rfl T.range (pa_cons pe_int pa_nil)) (pg_name (i := 4) sc_law.nd rfl (Or.inl rfl)) (pss_cons (ps_set (i := 9) sc_law.nd rfl (Or.inl rfl) (pe_call G_law_bent (hr.mono (by decide)) (by rfl) V.g_law_bent V.F_law_bent.kp V.b_law_bent .nil pass0 (pa_cons (pv 1) (pa_cons (pv 6) pa_nil))))
      (pss_cons (ps_if (PW.pt (pw_and (pt_cmpR op_eq (pe_call G_law_draw (hr.mono (by decide)) (by rfl) V.g_law_draw V.F_law_draw.kp V.b_law_draw .nil pass0 (pa_cons (pv 1) (pa_cons pe_int pa_nil))) pe_int (nomark _)) (pw_and1 (pt_cmpR (op_neD (hr.units)) (pv 9) (pe_lst pa_nil) (nomark _))))) (pss_one (ps_set (i := 9) sc_law.nd rfl (Or.inl rfl) (pe_call G_law_bent (hr.mono (by decide)) (by rfl) V.g_law_bent V.F_law_bent.kp V.b_law_bent .nil pass0 (pa_cons (pv 1) (pa_cons (pv 9) pa_nil))))) pss_nil)
      (pss_one (ps_if (pt_not (pt_val (pe_callG G_law_heard_right hg (hr.mono (by decide)) (by rfl) V.g_law_heard_right V.F_law_heard_right.kp V.b_law_heard_right .nil pass0 (pa_cons (pe_joinJ pe_str (pv 9)) pa_nil)))) (pss_one (ps_ret pe_bl)) pss_nil))))))))))))
      (pss_cons (ps_for PassesOwn.never rfl (pi_list (pe_lst (pa_cons pe_non (pa_cons pe_bl (pa_cons pe_int (pa_cons (pe_tup pa_nil) (pa_cons (pe_lst (pa_cons pe_str pa_nil)) (pa_cons pe_dnewK (pa_cons (pe_tup (pa_cons pe_str pa_nil)) (pa_cons (pe_newK (ks := ["a"]) (by rfl) V.g_Vector V.mk_V G_init (hr.mono (by decide)) pass0 (pk_cons pe_int pk_nil) (by decide)) (pa_cons (pe_disp (pps_cons pe_str pe_int pps_nil) (by rfl) (by rfl) (fun z => by cases z) (by decide)) pa_nil))))))))))) (pg_name (i := 10) sc_law.nd rfl (Or.inl rfl)) (pss_one (ps_if (pt_cmpR (op_neD (hr.units)) (pe_call G_law_heard (hr.mono (by decide)) (by rfl) V.g_law_heard V.F_law_heard.kp V.b_law_heard .nil pass0 (pa_cons (pv 10) pa_nil)) (pe_tup (pa_cons pe_int (pa_cons pe_int pa_nil))) (nomark _)) (pss_one (ps_ret pe_bl)) pss_nil)))
      (pss_cons (ps_setLc (i := 11) (own := [("_law_text_so", 12)]) (g := gName 12) rfl sc_law.nd rfl rfl (sw_true rfl rfl rfl (by decide +kernel)) (pi_tup (pe_tup (pa_cons pe_str (pa_cons pe_str (pa_cons pe_str (pa_cons pe_str (pa_cons pe_str (pa_cons pe_str (pa_cons pe_str (pa_cons pe_str pa_nil)))))))))) (blkOk_by (own := [("_law_text_so", 12)]) (N := N_law) (sc := defScope s_law) (by decide +kernel)) (fun _ _ _ _ _ => pg_name (i := 12) sc_law.nd rfl (Or.inl rfl)) (fun _ _ _ _ _ => pts_nil) (fun _ _ _ _ _ => (pe_call G_law_heard (hr.mono (by decide)) (by rfl) V.g_law_heard V.F_law_heard.kp V.b_law_heard .nil pass0 (pa_cons (pv 12) pa_nil))))
      (pss_one (ps_ret (pe_cmpR (op_eqD (hr.units)) (pv 11) (pe_lst (pa_cons (pe_tup (pa_cons pe_int (pa_cons pe_int pa_nil))) (pa_cons (pe_lst pa_nil) (pa_cons (pe_tup (pa_cons pe_int (pa_cons pe_int pa_nil))) (pa_cons (pe_tup (pa_cons pe_int (pa_cons pe_int pa_nil))) (pa_cons (pe_tup (pa_cons pe_int (pa_cons pe_int pa_nil))) (pa_cons (pe_tup (pa_cons pe_int (pa_cons pe_int pa_nil))) (pa_cons (pe_tup (pa_cons pe_int (pa_cons pe_int pa_nil))) (pa_cons (pe_tup (pa_cons pe_int (pa_cons pe_int pa_nil))) pa_nil))))))))) (nomark _)))))))), ?_⟩
    try dsimp only [cxOf]
    rw [show L2.start N_law [.ref a] = [some (.ref a), none, none, none, none, none, none, none, none, none, none, none, none] from rfl]
    walk_at "hline"
    refine ⟨a, ns, rfl, hS, len, ?_⟩
    intro q H1 nq P1 s1
    clear hS s1
    walk_at "hx"
    refine g_seq ?_
    walk_at "hx"
    refine g_rng (by decide) (by decide) ?_
    refine for_range (n := 8) (fun i σ' H' => (∃ y2 y3 y4 y5 y6 y7 y8 y9 y10 y11 y12, σ' = [some (.ref a), some (.ref q), y2, y3, y4, y5, y6, y7, y8, y9, y10, y11, y12]) ∧ Pen H' q (400 * i)) ⟨⟨none, none, none, none, none, none, none, none, none, none, none, rfl⟩, P1⟩ ?_ ?_
    · rintro i σ' H2 hi ⟨⟨y2, y3, y4, y5, y6, y7, y8, y9, y10, y11, y12, rfl⟩, P2⟩
      walk_at "hx"
      refine g_seq ?_
      walk_at "hx"
      intro B nB
      have nBq := P2.ne nB
      walk_at "hx"
      refine g_seq ?_
      walk_at "hx"
      refine ⟨q, 7, 400 * i, rfl, P2.new nB, by omega, by decide, by decide, ?_⟩
      intro d H3 d0 d1 P3 t3
      have b3 := t3.st _ _ nBq (upd_same (o := .dK []))
      clear t3 P2 nB
      walk_at "hx"
      refine g_rng (by omega) (by omega) ?_
      refine for_range (n := d.toNat) (fun j σ' H' => ∃ l, (∃ y4 y5 , σ' = [some (.ref a), some (.ref q), some (.int (0 + (i : Int))), some (.ref B), y4, y5, y6, y7, y8, y9, y10, y11, y12]) ∧ Pen H' q (400 * i + 1 + 16 * j) ∧ H' B = some (.dK (DI l)) ∧ Fill l j) ?_ ?_ ?_
      · exact ⟨[], ⟨y4, y5, rfl⟩, P3, b3, List.nodup_nil, fun _ h => (nomatch h), fun _ h => (nomatch h), fun k => (show (0 : Int).natAbs < 10 ^ 60 by decide +kernel), Nat.le_refl _⟩
      · rintro j σ' H4 hj ⟨l, ⟨z4, z5, rfl⟩, P4, b4, fl⟩
        have ll := fl.len
        walk_at "hx"
        refine g_seq ?_
        walk_at "hx"
        refine ⟨q, _, rfl, P4, by omega, ?_⟩
        intro x H5 okx L5
        have b5 := L5.but.st _ _ nBq b4
        walk_at "hx"
        refine g_dput ?_
        walk_at "hx"
        refine ⟨q, _, rfl, L5.pen, by omega, ?_⟩
        intro v H6 v0 vb L6
        have b6 := L6.but.st _ _ nBq b5
        walk_at "hx"
        refine ⟨B, _, rfl, .inl ⟨DI l, Sum.inr x, b6, rfl, ?_, rfl⟩, ?_⟩
        · rw [DI_len]
          exact Nat.lt_of_lt_of_le (show l.length < 1000 by omega) (by decide)
        rw [DI_put]
        walk_at "hx"
        exact ⟨_, ⟨_, _, rfl⟩, (L6.pen.past b6).more (by omega), upd_same, fl.put okx v0 vb⟩
      · rintro σ' H4 ⟨l, ⟨z4, z5, rfl⟩, P4, b4, fl⟩
        have d6 : d.toNat ≤ 6 := by omega
        have fl6 : Fill l 6 := ⟨fl.nd, fl.ok, fl.nz, fl.bd, Nat.le_trans fl.len d6⟩
        have P4' : Pen H4 q (400 * i + 97) := P4.more (by omega)
        clear fl P4 P3 b3 d6
        walk_at "hx"
        refine g_cut (fun σ' H' => ∃ (W : Addr) (r : IL) (y4 y5 : Option L2.V), σ' = [some (.ref a), some (.ref q), some (.int (0 + (i : Int))), some (.ref B), y4, y5, some (.ref W), y7, y8, y9, y10, y11, y12] ∧ Pen H' q (400 * i + 97) ∧ H' B = some (.dK (DI l)) ∧ Row l r ∧ H' W = some (.lst ((wordsL r).map L2.V.str)) ∧ W ≠ q) ?_ ?_
        · rintro σ' H5 ⟨W, r, x4, x5, rfl, P5, b5, Rw, w5, nWq⟩
          have wok := wordsL_ok Rw.box
          have wne := wordsL_ne r
          have wlen := wordsL_len (n := 6) Rw.len (by decide)
          have nd : (ks r).Nodup := pw_nodup Rw.can.asc
          have tok := joinT_ok (n := 0) (by decide) (Nat.le_trans wlen (by decide)) wok
          have db := due_back Rw.can Rw.box
          have rl := Rw.len
          refine g_seq ?_
          refine g_par ?_
          walk_at "hx"
          refine g_cmeth ?_
          walk_at "hx"
          refine ⟨rfl, ?_⟩
          walk_at "hx"
          refine ⟨B, l, rfl, b5, fl6.ok, fl6.nd, by have := fl6.len; omega, ?_⟩
          intro v1 r1 H6 nv1 s6 A1 kp1
          have er : r1 = r := A1.can.ext Rw.can fun k => by rw [kp1.vl, Rw.vl]
          rw [er] at A1
          clear kp1 er nv1
          have w6 := s6 _ _ w5
          walk_at "hx"
          refine g_join (SqL.of w6) (joinT_size (n := 0) (by decide) (Nat.le_trans wlen (by decide)) wok) ?_
          walk_at "hx"
          refine ⟨_, _, rfl, ?_⟩
          change tSeq _ _ _ (([some (L2.V.ref a), some (.ref q), some (.int (0 + (i : Int))), some (.ref B), x4, x5, some (.ref W), y7, y8, y9, y10, y11, y12].set 7 (some (.ref v1))).set 8 (some (.str (joinT (wordsL r))))) _
          dsimp only [List.set]
          refine g_seq ?_
          walk_at "hgo"
          refine ⟨v1, rfl, A1.inst, v1, r, rfl, A1, by omega, fun k => ?_, ?_⟩
          · by_cases z : k ∈ ks r
            · obtain ⟨p, hp, rfl⟩ := List.mem_map.mp z
              rw [vl_mem nd hp]
              exact big60 (Rw.box.bd p hp)
            · rw [vl_none z]
              exact (show (0 : Int).natAbs < 2 ^ 1000 by decide +kernel)
          intro H7 s7
          refine ⟨_, rfl, ?_⟩
          walk_at "hx"
          refine g_false (by rw [textOf_is nd]; simp) ?_
          walk_at "hx"
          refine g_cmK ?_
          walk_at "hx"
          refine ⟨rfl, ?_⟩
          walk_at "hx"
          refine ⟨.str (joinT (wordsL r)), rfl, .inl ⟨_, rfl, Nat.le_trans tok.len (by decide), tok.few, fun l' c H8 e asc f2 nc s8 va => ?_, fun i d H' e => (by rw [db] at e; cases e)⟩⟩
          have el : r = l' := by rw [db] at e; exact Sum.inr.inj e
          subst el
          have A8 := (A1.same s7).same s8
          walk_at "hx"
          refine ⟨c, .ref V.C, rfl, va.inst, A8.ty V rfl, V.nf_V, c, v1, r, r, rfl, va, A8, ?_⟩
          refine ⟨_, rfl, ?_⟩
          rw [decide_eq_true (Eq.refl r)]
          walk_at "hx"
          refine ⟨_, rfl, tok.len, tok.fit, tok.few, fun H9 s9 => ?_⟩
          have S := same_trans (same_trans (same_trans s6 s7) s8) s9
          have P9 := P5.same S
          have w9 := S _ _ w5
          clear S s6 s7 s8 s9 A8 va nc asc e A1 w6 P5 b5 w5 db f2
          walk_at "hx"
          refine g_rng (by decide) (by decide) ?_
          refine for_range (n := 6) (fun j σ' H' => (∃ x4 x9, σ' = [some (L2.V.ref a), some (.ref q), some (.int (0 + (i : Int))), some (.ref B), x4, x5, some (.ref W), some (.ref v1), some (.str (joinT (wordsL r))), x9, y10, y11, y12]) ∧ Pen H' q (400 * i + 97 + 13 * j) ∧ H' W = some (.lst ((wordsL r).map L2.V.str))) ⟨⟨x4, y9, rfl⟩, P9, w9⟩ ?_ ?_
          · rintro j σ' G1 hj ⟨⟨x4, x9, rfl⟩, P1, w1⟩
            walk_at "hx"
            refine g_seq ?_
            walk_at "hx"
            refine ⟨q, W, _, 0, wordsL r, rfl, P1, by omega, nWq, w1, wne, by omega, by decide, wok, ?_⟩
            intro p us G2 npq np L2' e2 l2 ok2
            have w2 := L2'.but.st _ _ nWq w1
            have P2 := L2'.pen
            clear L2' P1 w1 np
            walk_at "hx"
            refine g_cut (fun σ' H' => ∃ (p : Addr) (us : List Str), σ' = [some (L2.V.ref a), some (.ref q), some (.int (0 + (i : Int))), some (.ref B), some (.int (0 + (j : Int))), x5, some (.ref W), some (.ref v1), some (.str (joinT (wordsL r))), some (.ref p), y10, y11, y12] ∧ Pen H' q (400 * i + 97 + 13 * (j + 1)) ∧ H' W = some (.lst ((wordsL r).map L2.V.str)) ∧ H' p = some (.lst (us.map L2.V.str)) ∧ us.length ≤ 8 ∧ ∀ w ∈ us, WordOk 2 w) ?_ ?_
            · rintro σ' G3 ⟨p, us, rfl, P3, w3, e3, l3, ok3⟩
              have tk := joinT_ok (n := 2) (by decide) (Nat.le_trans l3 (by decide)) ok3
              walk_at "hx"
              refine g_join (SqL.of e3) (joinT_size (n := 2) (by decide) (Nat.le_trans l3 (by decide)) ok3) ?_
              walk_at "hx"
              refine ⟨joinT us, rfl, tk.len, tk.fit, tk.few, fun G4 s4 => ?_⟩
              walk_at "hx"
              exact ⟨⟨_, _, rfl⟩, P3.same s4, s4 _ _ w3⟩
            · intro R hR
              walk_at "hx"
              refine ⟨q, 3, _, rfl, P2, by omega, by decide, by decide, ?_⟩
              intro d3 G3 c0 c1 P3 t3
              have w3 := t3.st _ _ nWq w2
              have e3 := t3.st _ _ npq e2
              walk_at "hx"
              by_cases z : d3 = 0
              · refine g_true (by simp [z]) ?_
                walk_at "hx"
                intro n0 hn0
                have w4 := same_new (o := .lst []) hn0 _ _ w3
                have e4 := same_new (o := .lst []) hn0 _ _ e3
                have P4 := P3.new (o := .lst []) hn0
                refine g_neD (.lst (SqL.of e4) (dp_strs us)) (.lst (SqL.of upd_same) .nil) (shaped_strs fun c hc => fit_strOk (ok2 c hc).fit) (by decide +kernel) ?_
                rw [eqv_strs]
                generalize upd G3 n0 (.lst []) = G4 at w4 e4 P4 ⊢
                walk_at "hx"
                by_cases y : us = []
                · refine g_false (by simp [y]) ?_
                  walk_at "hx"
                  exact hR _ _ ⟨p, us, rfl, P4.more (by omega), w4, e4, by omega, fun w hw => (ok2 w hw).more⟩
                · refine g_true (by simp [y]) ?_
                  walk_at "hx"
                  refine ⟨q, p, _, 1, us, rfl, P4, by omega, npq, e4, y, by omega, by decide, ok2, ?_⟩
                  intro p2 us2 G5 np2q np2 L5 e5 l5 ok5
                  walk_at "hx"
                  exact hR _ _ ⟨p2, us2, rfl, L5.pen.more (by omega), L5.but.st _ _ nWq w4, e5, by omega, ok5⟩
              · refine g_false (by simp [z]) ?_
                walk_at "hx"
                exact hR _ _ ⟨p, us, rfl, P3.more (by omega), w3, e3, by omega, fun w hw => (ok2 w hw).more⟩
          · rintro σ' G1 ⟨⟨x4, x9, rfl⟩, P1, w1⟩
            walk_at "hx"
            exact ⟨⟨_, _, _, _, _, _, _, _, _, _, _, rfl⟩, P1.more (by omega)⟩
        · intro R hR
          walk_at "hx"
          intro e0 he0
          have b5 := same_new (o := .dK []) he0 _ _ b4
          have P5 := P4'.new (o := .dK []) he0
          refine ⟨B, e0, DI l, DI [], rfl, rfl, b5, upd_same, DI_int, fun _ _ => DI_some, ?_⟩
          generalize upd H4 e0 (.dK []) = H5 at b5 P5 ⊢
          clear b4 P4' he0
          walk_at "hx"
          by_cases y : l = []
          · refine g_false (show noNum l = false by rw [y]; rfl) ?_
            walk_at "hx"
            intro W hW
            walk_at "hx"
            subst y
            exact hR _ _ ⟨W, [], _, _, rfl, P5.new hW, same_new hW _ _ b5, row_nil, upd_same, P5.ne hW⟩
          · refine g_true (noNum_cons y) ?_
            walk_at "hx"
            refine ⟨B, DI l, ks l, rfl, .inl b5, DI_keys l, by rw [ks_len]; have := fl6.len; omega, ?_⟩
            intro ys p perm srt hp
            refine g_atL (SqL.of (upd_same (o := .lst (ys.map L2.V.str)))) fun D hD => ?_
            have ndp : D ≠ p := fun e => by rw [e, upd_same] at hD; cases hD
            rw [upd_ne ndp] at hD
            have ly : ys.length = l.length := by rw [perm.length_eq, ks_len]
            have l6 := fl6.len
            refine lc_it (walk_list (K := K) (xs := ys.map L2.V.str)) (fun i H' => H' p = some (.lst (ys.map L2.V.str)) ∧ H' D = some (.lst (((ys.take i).map fun k => entry k (vl l k)).map L2.V.str)) ∧ Same H5 H') ?_ (fun _ _ _ z => SqL.of z.1) ?_ ?_
            · refine ⟨?_, upd_same, ?_⟩
              · rw [upd_ne ndp.symm]; exact upd_same
              · exact same_trans (same_new hp) (same_new (by rw [upd_ne ndp]; exact hD))
            · rintro i2 x G1 G2 hi2 ⟨p1, p2, p3⟩ ⟨rfl, hx⟩
              obtain ⟨y1, hy, rfl⟩ := str_at hx
              have my : y1 ∈ ks l := perm.mem_iff.mp (List.mem_of_getElem? hy)
              have oky := okS_len (fl6.ok y1 my)
              have i2l : i2 < ys.length := by rw [List.length_map] at hi2; exact hi2
              have bi := fl6.bd y1
              walk_at "hx"
              refine ⟨rfl, ?_⟩
              walk_at "hx"
              have e1 : (Str.ofString "=").length = 1 := by decide +kernel
              refine g_addS (small_of (by omega)) ?_
              walk_at "hx"
              refine g_dget ?_
              walk_at "hx"
              refine ⟨B, _, rfl, rd_at (.inl (p3 _ _ b5)) my, ?_⟩
              walk_at "hx"
              refine g_strI (Nat.lt_trans (PySem.Flt.log2_lt_of (k := 1000) (by decide) (big60 bi)) (by decide)) ?_
              have il := int_len bi
              walk_at "hx"
              refine g_addS (small_of (by rw [strLen_add]; omega)) ?_
              refine ⟨_, p2, ?_, ?_, ?_, ?_⟩
              · rw [List.length_map, List.length_map, List.length_take]
                exact Nat.lt_of_lt_of_le (show min i2 ys.length < 1000 by omega) (by decide)
              · rw [upd_ne ndp.symm]; exact p1
              · rw [upd_same, take_snoc hy, List.map_append, List.map_append, ← entry_is]
                rfl
              · intro x o e
                rw [upd_ne (ne_of_none e hD)]
                exact p3 _ _ e
            · rintro G1 ⟨p1, p2, p3⟩
              rw [List.length_map, List.take_length] at p2
              have rne : (ys.map fun k => (k, vl l k)) ≠ [] := fun e => y (List.length_eq_zero_iff.mp (by rw [← ly, List.map_eq_nil_iff.mp e]; rfl))
              have we : wordsL (ys.map fun k => (k, vl l k)) = ys.map fun k => entry k (vl l k) := by
                unfold wordsL
                rw [if_neg rne, List.map_map]
                rfl
              walk_at "hx"
              exact hR _ _ ⟨D, _, _, _, rfl, P5.same p3, p3 _ _ b5, row_of fl6 perm srt, by rw [we]; exact p2, P5.ne hD⟩
    · rintro σ' H2 ⟨⟨y2, y3, y4, y5, y6, y7, y8, y9, y10, y11, y12, rfl⟩, P2⟩
      clear P2 P1 nq
      walk_at "hx"
      refine g_seq ?_
      walk_at "hx"
      intro t0 ht0
      have e0 : upd H2 t0 (.tup []) t0 = some (.tup []) := upd_same
      generalize upd H2 t0 (.tup []) = G0 at e0 ⊢
      walk_at "hx"
      intro l1 hl1
      replace e0 := same_new (o := .lst [L2.V.str (Str.ofString "a=1")]) hl1 _ _ e0
      have e1 : upd G0 l1 (.lst [L2.V.str (Str.ofString "a=1")]) l1 = some (.lst [L2.V.str (Str.ofString "a=1")]) := upd_same
      generalize upd G0 l1 (.lst [L2.V.str (Str.ofString "a=1")]) = G1 at e0 e1 ⊢
      clear hl1
      walk_at "hx"
      intro d1 hd1
      replace e0 := same_new (o := .dK []) hd1 _ _ e0
      replace e1 := same_new (o := .dK []) hd1 _ _ e1
      have e2 : upd G1 d1 (.dK []) d1 = some (.dK []) := upd_same
      generalize upd G1 d1 (.dK []) = G2 at e0 e1 e2 ⊢
      clear hd1
      walk_at "hx"
      intro t1 ht1
      replace e0 := same_new (o := .tup [L2.V.str (Str.ofString "a=1")]) ht1 _ _ e0
      replace e1 := same_new (o := .tup [L2.V.str (Str.ofString "a=1")]) ht1 _ _ e1
      replace e2 := same_new (o := .tup [L2.V.str (Str.ofString "a=1")]) ht1 _ _ e2
      have e3 : upd G2 t1 (.tup [L2.V.str (Str.ofString "a=1")]) t1 = some (.tup [L2.V.str (Str.ofString "a=1")]) := upd_same
      generalize upd G2 t1 (.tup [L2.V.str (Str.ofString "a=1")]) = G3 at e0 e1 e2 e3 ⊢
      clear ht1
      walk_at "hx"
      refine g_newK ?_
      walk_at "hx"
      refine ⟨rfl, insq_of (l := one1 1) (one_ok 1) (one_nd 1) (show 1 ≤ 60 by decide) ?_⟩
      intro v r4 G4 nv s4 va kp
      replace e0 := s4 _ _ e0
      replace e1 := s4 _ _ e1
      replace e2 := s4 _ _ e2
      replace e3 := s4 _ _ e3
      clear s4 nv kp
      walk_at "hx"
      intro d2 hd2
      walk_at "hx"
      refine g_pair1 (Sum.inr (Str.ofString "a")) rfl upd_same ?_
      have s6 : Same G4 (upd (upd G4 d2 (.dK [])) d2 (.dK (mergeK [] [(Sum.inr (Str.ofString "a"), L2.V.int 1)]))) := fun b o e => by
        rw [upd_ne (ne_of_none e hd2), upd_ne (ne_of_none e hd2)]
        exact e
      replace e0 := s6 _ _ e0
      replace e1 := s6 _ _ e1
      replace e2 := s6 _ _ e2
      replace e3 := s6 _ _ e3
      replace va := va.same s6
      have e5 : upd (upd G4 d2 (.dK [])) d2 (.dK (mergeK [] [(Sum.inr (Str.ofString "a"), L2.V.int 1)])) d2 = some (.dK (mergeK [] [(Sum.inr (Str.ofString "a"), L2.V.int 1)])) := upd_same
      generalize upd (upd G4 d2 (.dK [])) d2 (.dK (mergeK [] [(Sum.inr (Str.ofString "a"), L2.V.int 1)])) = G6 at e0 e1 e2 e3 va e5 ⊢
      clear s6 hd2
      walk_at "hx"
      intro Ls hLs
      have s7 := same_new (o := .lst [L2.V.non, .bl true, .int 0, .ref t0, .ref l1, .ref d1, .ref t1, .ref v, .ref d2]) hLs
      replace e0 := s7 _ _ e0
      replace e1 := s7 _ _ e1
      replace e2 := s7 _ _ e2
      replace e3 := s7 _ _ e3
      replace va := va.same s7
      replace e5 := s7 _ _ e5
      have e6 : upd G6 Ls (.lst [L2.V.non, .bl true, .int 0, .ref t0, .ref l1, .ref d1, .ref t1, .ref v, .ref d2]) Ls = some (.lst [L2.V.non, .bl true, .int 0, .ref t0, .ref l1, .ref d1, .ref t1, .ref v, .ref d2]) := upd_same
      generalize upd G6 Ls (.lst [L2.V.non, .bl true, .int 0, .ref t0, .ref l1, .ref d1, .ref t1, .ref v, .ref d2]) = G7 at e0 e1 e2 e3 va e5 e6 ⊢
      clear s7 hLs
      refine g_atL (SqL.of e6) ?_
      have nots : ∀ x ∈ [L2.V.non, .bl true, .int 0, .ref t0, .ref l1, .ref d1, .ref t1, .ref v, .ref d2], NS K G7 x := by
        intro x hx H' s'
        simp only [List.mem_cons, List.not_mem_nil, or_false] at hx
        rcases hx with rfl | rfl | rfl | rfl | rfl | rfl | rfl | rfl | rfl
        · exact ns_of "NoneType" (.base .non) (by decide +kernel)
        · exact ns_of "bool" (.base (.bl true)) (by decide +kernel)
        · exact ns_of "int" (.base (.int 0)) (by decide +kernel)
        · exact ns_of "tuple" (.base (.tup (s' _ _ e0))) (by decide +kernel)
        · exact ns_of "list" (.base (.lst (s' _ _ e1))) (by decide +kernel)
        · exact ns_of "dict" (.base (.dK (s' _ _ e2))) (by decide +kernel)
        · exact ns_of "tuple" (.base (.tup (s' _ _ e3))) (by decide +kernel)
        · exact ⟨.ref V.C, (va.same s').ty V rfl, V.notStr⟩
        · exact ns_of "dict" (.base (.dK (s' _ _ e5))) (by decide +kernel)
      generalize [L2.V.non, .bl true, .int 0, .ref t0, .ref l1, .ref d1, .ref t1, .ref v, .ref d2] = xs at nots e6 ⊢
      clear e0 e1 e2 e3 e5 va
      refine for_it (walk_list (K := K) (a := Ls) (xs := xs)) (fun i σ' H' => (∃ y10, σ' = [some (.ref a), some (.ref q), y2, y3, y4, y5, y6, y7, y8, y9, y10, y11, y12]) ∧ Same G7 H') ⟨⟨y10, rfl⟩, Same.refl G7⟩ (fun i σ' H' _ h => SqL.of (h.2 _ _ e6)) ?_ ?_
      · rintro i x σ' H8 H9 hi ⟨⟨z10, rfl⟩, s8⟩ ⟨rfl, hx⟩
        have nx := nots x (List.mem_of_getElem? hx) _ s8
        walk_at "hx"
        refine ⟨x, rfl, .inr ⟨nx, fun p G9 hp s9 e9 => ?_⟩⟩
        walk_at "hx"
        intro p2 hp2
        have s10 := same_new (o := .tup [L2.V.int 0, .int 0]) hp2
        refine g_neD (pt_dp (s10 _ _ e9)) (pt_dp upd_same) (by decide +kernel) (by decide +kernel) ?_
        rw [show PyData.eqv (pt 0) (pt 0) = true by decide +kernel]
        walk_at "hx"
        exact ⟨⟨_, rfl⟩, same_trans (same_trans s8 s9) s10⟩
      · rintro σ' H8 ⟨⟨z10, rfl⟩, s8⟩
        clear s8 nots e6
        walk_at "hx"
        refine g_seq ?_
        walk_at "hx"
        intro tp ntp
        have eT : upd H8 tp (.tup [L2.V.str (Str.ofString ""), L2.V.str (Str.ofString "0"), L2.V.str (Str.ofString "0 a=1"), L2.V.str (Str.ofString "a=1 0"), L2.V.str (Str.ofString " "), L2.V.str (Str.ofString "a=1 "), L2.V.str (Str.ofString "b=1 a=1"), L2.V.str (Str.ofString "a=1 a=2")]) tp = some (.tup (texts.map L2.V.str)) := upd_same
        generalize upd H8 tp (.tup [L2.V.str (Str.ofString ""), L2.V.str (Str.ofString "0"), L2.V.str (Str.ofString "0 a=1"), L2.V.str (Str.ofString "a=1 0"), L2.V.str (Str.ofString " "), L2.V.str (Str.ofString "a=1 "), L2.V.str (Str.ofString "b=1 a=1"), L2.V.str (Str.ofString "a=1 a=2")]) = H9 at eT ⊢
        clear ntp
        refine g_atT (SqT.of eT) fun D hD => ?_
        have ntD : tp ≠ D := ne_of_none eT hD
        have tl8 : texts.length = 8 := rfl
        refine lc_it (walk_tup (K := K) (xs := texts.map L2.V.str)) (fun i H' => H' tp = some (.tup (texts.map L2.V.str)) ∧ ∃ ts : List Addr, H' D = some (.lst (ts.map L2.V.ref)) ∧ Obs D H' ts ((texts.take i).map due)) ?_ (fun _ _ _ z => SqT.of z.1) ?_ ?_
        · exact ⟨by rw [upd_ne ntD]; exact eT, [], upd_same, .nil⟩
        · rintro i x G1 G2 hi ⟨p1, ts, p2, ob⟩ ⟨rfl, hx⟩
          obtain ⟨t, ht, rfl⟩ := str_at hx
          have mt : t ∈ texts := List.mem_of_getElem? ht
          have ok := texts_ok t mt
          have mo : due t ∈ outs := by rw [← texts_due]; exact List.mem_map_of_mem mt
          have tsl := ob.len
          rw [List.length_map] at hi
          have tk : (texts.take (i + 1)).map due = (texts.take i).map due ++ [due t] := by rw [take_snoc ht, List.map_append]; rfl
          have ln : (ts.map L2.V.ref).length < sizeLine := by
            rw [List.length_map, tsl, List.length_map, List.length_take]
            exact Nat.lt_of_lt_of_le (show min i texts.length < 1000 by omega) (by decide)
          walk_at "hx"
          refine ⟨rfl, ?_⟩
          walk_at "hx"
          refine ⟨.str t, rfl, .inl ⟨t, rfl, ok.1, ok.2, fun l p G3 e asc f2 hp s3 R3 => ?_, fun i3 p G3 e hp s3 e3 => ?_⟩⟩
          · have ln0 : l = [] := by
              rw [e] at mo
              simpa [outs] using mo
            have nD : D ≠ p := ne_of_none p2 hp
            obtain ⟨us, r1, r2⟩ := R3
            rw [ln0] at r2
            cases r2
            refine ⟨_, s3 _ _ p2, ln, by rw [upd_ne ntD]; exact s3 _ _ p1, ts ++ [p], by rw [upd_same, List.map_append]; rfl, ?_⟩
            rw [tk, e]
            exact Obs.past (s3 _ _ p2) ((ob.same s3).snoc (o := .inr l) ⟨ln0, nD.symm, r1⟩)
          · refine ⟨_, s3 _ _ p2, ln, by rw [upd_ne ntD]; exact s3 _ _ p1, ts ++ [p], by rw [upd_same, List.map_append]; rfl, ?_⟩
            rw [tk, e]
            exact Obs.past (s3 _ _ p2) ((ob.same s3).snoc (o := .inl i3) e3)
        · rintro G1 ⟨p1, ts, p2, ob⟩
          rw [List.length_map, List.take_length, texts_due] at ob
          have dp1 : DpAll K G1 (ts.map L2.V.ref) (outs.map outD) := ob.dp
          clear p1 dp1 eT hD ntD
          walk_at "hx"
          intro a0 ha0
          replace p2 := same_new (o := .tup [L2.V.int 0, .int 0]) ha0 _ _ p2
          replace ob := ob.same (same_new (o := .tup [L2.V.int 0, .int 0]) ha0)
          have q0 : upd G1 a0 (.tup [L2.V.int 0, .int 0]) a0 = some (.tup [L2.V.int 0, .int 0]) := upd_same
          generalize upd G1 a0 (.tup [L2.V.int 0, .int 0]) = K0 at p2 ob q0 ⊢
          clear ha0
          walk_at "hx"
          intro a1 ha1
          replace p2 := same_new (o := .lst []) ha1 _ _ p2
          replace ob := ob.same (same_new (o := .lst []) ha1)
          replace q0 := same_new (o := .lst []) ha1 _ _ q0
          have q1 : upd K0 a1 (.lst []) a1 = some (.lst []) := upd_same
          generalize upd K0 a1 (.lst []) = K1 at p2 ob q0 q1 ⊢
          clear ha1
          walk_at "hx"
          intro a2 ha2
          replace p2 := same_new (o := .tup [L2.V.int 0, .int 1]) ha2 _ _ p2
          replace ob := ob.same (same_new (o := .tup [L2.V.int 0, .int 1]) ha2)
          replace q0 := same_new (o := .tup [L2.V.int 0, .int 1]) ha2 _ _ q0
          replace q1 := same_new (o := .tup [L2.V.int 0, .int 1]) ha2 _ _ q1
          have q2 : upd K1 a2 (.tup [L2.V.int 0, .int 1]) a2 = some (.tup [L2.V.int 0, .int 1]) := upd_same
          generalize upd K1 a2 (.tup [L2.V.int 0, .int 1]) = K2 at p2 ob q0 q1 q2 ⊢
          clear ha2
          walk_at "hx"
          intro a3 ha3
          replace p2 := same_new (o := .tup [L2.V.int 0, .int 1]) ha3 _ _ p2
          replace ob := ob.same (same_new (o := .tup [L2.V.int 0, .int 1]) ha3)
          replace q0 := same_new (o := .tup [L2.V.int 0, .int 1]) ha3 _ _ q0
          replace q1 := same_new (o := .tup [L2.V.int 0, .int 1]) ha3 _ _ q1
          replace q2 := same_new (o := .tup [L2.V.int 0, .int 1]) ha3 _ _ q2
          have q3 : upd K2 a3 (.tup [L2.V.int 0, .int 1]) a3 = some (.tup [L2.V.int 0, .int 1]) := upd_same
          generalize upd K2 a3 (.tup [L2.V.int 0, .int 1]) = K3 at p2 ob q0 q1 q2 q3 ⊢
          clear ha3
          walk_at "hx"
          intro a4 ha4
          replace p2 := same_new (o := .tup [L2.V.int 0, .int 0]) ha4 _ _ p2
          replace ob := ob.same (same_new (o := .tup [L2.V.int 0, .int 0]) ha4)
          replace q0 := same_new (o := .tup [L2.V.int 0, .int 0]) ha4 _ _ q0
          replace q1 := same_new (o := .tup [L2.V.int 0, .int 0]) ha4 _ _ q1
          replace q2 := same_new (o := .tup [L2.V.int 0, .int 0]) ha4 _ _ q2
          replace q3 := same_new (o := .tup [L2.V.int 0, .int 0]) ha4 _ _ q3
          have q4 : upd K3 a4 (.tup [L2.V.int 0, .int 0]) a4 = some (.tup [L2.V.int 0, .int 0]) := upd_same
          generalize upd K3 a4 (.tup [L2.V.int 0, .int 0]) = K4 at p2 ob q0 q1 q2 q3 q4 ⊢
          clear ha4
          walk_at "hx"
          intro a5 ha5
          replace p2 := same_new (o := .tup [L2.V.int 0, .int 1]) ha5 _ _ p2
          replace ob := ob.same (same_new (o := .tup [L2.V.int 0, .int 1]) ha5)
          replace q0 := same_new (o := .tup [L2.V.int 0, .int 1]) ha5 _ _ q0
          replace q1 := same_new (o := .tup [L2.V.int 0, .int 1]) ha5 _ _ q1
          replace q2 := same_new (o := .tup [L2.V.int 0, .int 1]) ha5 _ _ q2
          replace q3 := same_new (o := .tup [L2.V.int 0, .int 1]) ha5 _ _ q3
          replace q4 := same_new (o := .tup [L2.V.int 0, .int 1]) ha5 _ _ q4
          have q5 : upd K4 a5 (.tup [L2.V.int 0, .int 1]) a5 = some (.tup [L2.V.int 0, .int 1]) := upd_same
          generalize upd K4 a5 (.tup [L2.V.int 0, .int 1]) = K5 at p2 ob q0 q1 q2 q3 q4 q5 ⊢
          clear ha5
          walk_at "hx"
          intro a6 ha6
          replace p2 := same_new (o := .tup [L2.V.int 0, .int 1]) ha6 _ _ p2
          replace ob := ob.same (same_new (o := .tup [L2.V.int 0, .int 1]) ha6)
          replace q0 := same_new (o := .tup [L2.V.int 0, .int 1]) ha6 _ _ q0
          replace q1 := same_new (o := .tup [L2.V.int 0, .int 1]) ha6 _ _ q1
          replace q2 := same_new (o := .tup [L2.V.int 0, .int 1]) ha6 _ _ q2
          replace q3 := same_new (o := .tup [L2.V.int 0, .int 1]) ha6 _ _ q3
          replace q4 := same_new (o := .tup [L2.V.int 0, .int 1]) ha6 _ _ q4
          replace q5 := same_new (o := .tup [L2.V.int 0, .int 1]) ha6 _ _ q5
          have q6 : upd K5 a6 (.tup [L2.V.int 0, .int 1]) a6 = some (.tup [L2.V.int 0, .int 1]) := upd_same
          generalize upd K5 a6 (.tup [L2.V.int 0, .int 1]) = K6 at p2 ob q0 q1 q2 q3 q4 q5 q6 ⊢
          clear ha6
          walk_at "hx"
          intro a7 ha7
          replace p2 := same_new (o := .tup [L2.V.int 0, .int 1]) ha7 _ _ p2
          replace ob := ob.same (same_new (o := .tup [L2.V.int 0, .int 1]) ha7)
          replace q0 := same_new (o := .tup [L2.V.int 0, .int 1]) ha7 _ _ q0
          replace q1 := same_new (o := .tup [L2.V.int 0, .int 1]) ha7 _ _ q1
          replace q2 := same_new (o := .tup [L2.V.int 0, .int 1]) ha7 _ _ q2
          replace q3 := same_new (o := .tup [L2.V.int 0, .int 1]) ha7 _ _ q3
          replace q4 := same_new (o := .tup [L2.V.int 0, .int 1]) ha7 _ _ q4
          replace q5 := same_new (o := .tup [L2.V.int 0, .int 1]) ha7 _ _ q5
          replace q6 := same_new (o := .tup [L2.V.int 0, .int 1]) ha7 _ _ q6
          have q7 : upd K6 a7 (.tup [L2.V.int 0, .int 1]) a7 = some (.tup [L2.V.int 0, .int 1]) := upd_same
          generalize upd K6 a7 (.tup [L2.V.int 0, .int 1]) = K7 at p2 ob q0 q1 q2 q3 q4 q5 q6 q7 ⊢
          clear ha7
          walk_at "hx"
          intro Lz hLz
          replace p2 := same_new (o := .lst [L2.V.ref a0, L2.V.ref a1, L2.V.ref a2, L2.V.ref a3, L2.V.ref a4, L2.V.ref a5, L2.V.ref a6, L2.V.ref a7]) hLz _ _ p2
          replace ob := ob.same (same_new (o := .lst [L2.V.ref a0, L2.V.ref a1, L2.V.ref a2, L2.V.ref a3, L2.V.ref a4, L2.V.ref a5, L2.V.ref a6, L2.V.ref a7]) hLz)
          replace q0 := same_new (o := .lst [L2.V.ref a0, L2.V.ref a1, L2.V.ref a2, L2.V.ref a3, L2.V.ref a4, L2.V.ref a5, L2.V.ref a6, L2.V.ref a7]) hLz _ _ q0
          replace q1 := same_new (o := .lst [L2.V.ref a0, L2.V.ref a1, L2.V.ref a2, L2.V.ref a3, L2.V.ref a4, L2.V.ref a5, L2.V.ref a6, L2.V.ref a7]) hLz _ _ q1
          replace q2 := same_new (o := .lst [L2.V.ref a0, L2.V.ref a1, L2.V.ref a2, L2.V.ref a3, L2.V.ref a4, L2.V.ref a5, L2.V.ref a6, L2.V.ref a7]) hLz _ _ q2
          replace q3 := same_new (o := .lst [L2.V.ref a0, L2.V.ref a1, L2.V.ref a2, L2.V.ref a3, L2.V.ref a4, L2.V.ref a5, L2.V.ref a6, L2.V.ref a7]) hLz _ _ q3
          replace q4 := same_new (o := .lst [L2.V.ref a0, L2.V.ref a1, L2.V.ref a2, L2.V.ref a3, L2.V.ref a4, L2.V.ref a5, L2.V.ref a6, L2.V.ref a7]) hLz _ _ q4
          replace q5 := same_new (o := .lst [L2.V.ref a0, L2.V.ref a1, L2.V.ref a2, L2.V.ref a3, L2.V.ref a4, L2.V.ref a5, L2.V.ref a6, L2.V.ref a7]) hLz _ _ q5
          replace q6 := same_new (o := .lst [L2.V.ref a0, L2.V.ref a1, L2.V.ref a2, L2.V.ref a3, L2.V.ref a4, L2.V.ref a5, L2.V.ref a6, L2.V.ref a7]) hLz _ _ q6
          replace q7 := same_new (o := .lst [L2.V.ref a0, L2.V.ref a1, L2.V.ref a2, L2.V.ref a3, L2.V.ref a4, L2.V.ref a5, L2.V.ref a6, L2.V.ref a7]) hLz _ _ q7
          refine g_eqD (e := .list (outs.map outD)) (.lst (SqL.of p2) ob.dp) (.lst (SqL.of upd_same) (.cons (pt_dp q0) (.cons (.lst (SqL.of q1) .nil) (.cons (pt_dp q2) (.cons (pt_dp q3) (.cons (pt_dp q4) (.cons (pt_dp q5) (.cons (pt_dp q6) (.cons (pt_dp q7) .nil))))))))) (by decide +kernel) (by decide +kernel) ?_
          rw [show PyData.eqv (.list (outs.map outD)) (.list (outs.map outD)) = true by decide +kernel]
          walk_at "hx"
          exact k _
end

theorem kb_two {K : PySem.W.Frag} {x qual a b : Str} {st : Stmt} {f : Addr} {fd : FuncData} (F : Fun K x qual st f fd)
    (h1 : ∀ (kV doc pm : Value) (an : Option Addr) (cdv ct u v : Value), bindArgs (PySem.W.fnOf x qual (defArgs st) (defBody st) (defScope st) .none kV doc pm an cdv ct) ⟨[u], [(b, v)]⟩ = pure [(a, u), (b, v)]) :
    KBinds K fd [a, b] [b] gTwo gTwo := by
  obtain ⟨oc, od, kV, doc, pm, an, cdv, ct, osl, rfl, lk, hcd⟩ := F.ex
  refine ⟨fun s us ws _ hl => ?_, fun {vs us zs ws} r q => ?_⟩
  · match us, ws, hl with
    | [u], [v], _ => exact .of_eq (h1 kV doc pm an cdv ct u v)
    | [], _, hl => cases hl
    | [_], [], hl => cases hl
    | [_], _ :: _ :: _, hl => cases hl
    | _ :: _ :: _, _, hl => cases hl
  · cases r with
    | nil => exact .nil
    | cons r1 r2 =>
      cases r2 with
      | nil =>
        cases q with
        | nil => exact .nil
        | cons q1 q2 =>
          cases q2 with
          | nil => exact .cons r1 (.cons q1 .nil)
          | cons _ _ => exact .nil
      | cons _ _ => exact .nil
theorem kit_sub {K : PySem.W.Frag} {C : Addr} {T : String} {b : Bool} (hT : PySem.W.kitMeta T = true) (h : PySem.W.subIn K (.ref C) (.type T) = some b) : PySem.W.kitOne K (.ref C) (.type T) = some b := by
  unfold PySem.W.kitOne
  rw [if_neg (by simp)]
  show (if PySem.W.kitMeta T = true then PySem.W.subIn K (.ref C) (.type T) else none) = _
  rw [if_pos hT]
  exact h
theorem exm_two {K : PySem.W.Frag} {cls a b : Value} {x y : Bool} (h1 : PySem.W.exmOne K cls a = some x) (h2 : PySem.W.exmOne K cls b = some y) : PySem.W.exmAny K cls [a, b] = some (x || (y || false)) := by
  have e0 : PySem.W.exmAny K cls [] = some false := rfl
  have e1 : PySem.W.exmAny K cls [b] = some (y || false) := by
    show (match PySem.W.exmOne K cls b, PySem.W.exmAny K cls [] with | some b, some d => some (b || d) | _, _ => none) = _
    rw [h2, e0]
  show (match PySem.W.exmOne K cls a, PySem.W.exmAny K cls [b] with | some b, some d => some (b || d) | _, _ => none) = _
  rw [h1, e1]
theorem all_mk {P : Program} {w : World} {K : PySem.W.Frag} {h : Heap} {mg : Str → Option Value} {fa : Addr} (X : K.In h) (G : h.Ns mainGlobals mg) (hfa : mg "law" = some (.ref fa))
    {C pOf pRd pNm CL CT CN CM : Addr} {vtok : Tok} {ro1 ro2 ro3 : List Value} {fIN fII fGI fKN fLO fRN fRS fRV fNT fVT fLP fLD fLK fLW fLG fLH fLI fLU fLE fLB fLR fLQ fI fOF fRD fNM fGT fEQ fST fNI fWA fEA fTI fLaw : Addr} {xnm xq : Str} {xN : Addr} {xbs : List Value} {xsn : List Str} {xsub : List Value} {xab : Bool} {xcol : Option Bool} {xdd : Option Addr} {m0 m1 m2 m3 m5 : Option Value} {ocIN kVIN docIN pmIN cdIN ctIN : Value} {odIN anIN : Option Addr} {slIN : Array (Option Value)} {ocII kVII docII pmII cdII ctII : Value} {odII anII : Option Addr} {slII : Array (Option Value)} {ocGI kVGI docGI pmGI cdGI ctGI : Value} {odGI anGI : Option Addr} {slGI : Array (Option Value)} {ocKN kVKN docKN pmKN cdKN ctKN : Value} {odKN anKN : Option Addr} {slKN : Array (Option Value)} {ocLO kVLO docLO pmLO cdLO ctLO : Value} {odLO anLO : Option Addr} {slLO : Array (Option Value)} {ocRN kVRN docRN pmRN cdRN ctRN : Value} {odRN anRN : Option Addr} {slRN : Array (Option Value)} {ocRS kVRS docRS pmRS cdRS ctRS : Value} {odRS anRS : Option Addr} {slRS : Array (Option Value)} {ocRV kVRV docRV pmRV cdRV ctRV : Value} {odRV anRV : Option Addr} {slRV : Array (Option Value)} {ocNT kVNT docNT pmNT cdNT ctNT : Value} {odNT anNT : Option Addr} {slNT : Array (Option Value)} {ocVT kVVT docVT pmVT cdVT ctVT : Value} {odVT anVT : Option Addr} {slVT : Array (Option Value)} {ocLP kVLP docLP pmLP cdLP ctLP : Value} {odLP anLP : Option Addr} {slLP : Array (Option Value)} {ocLD kVLD docLD pmLD cdLD ctLD : Value} {odLD anLD : Option Addr} {slLD : Array (Option Value)} {ocLK kVLK docLK pmLK cdLK ctLK : Value} {odLK anLK : Option Addr} {slLK : Array (Option Value)} {ocLW kVLW docLW pmLW cdLW ctLW : Value} {odLW anLW : Option Addr} {slLW : Array (Option Value)} {ocLG kVLG docLG pmLG cdLG ctLG : Value} {odLG anLG : Option Addr} {slLG : Array (Option Value)} {ocLH kVLH docLH pmLH cdLH ctLH : Value} {odLH anLH : Option Addr} {slLH : Array (Option Value)} {ocLI kVLI docLI pmLI cdLI ctLI : Value} {odLI anLI : Option Addr} {slLI : Array (Option Value)} {ocLU kVLU docLU pmLU cdLU ctLU : Value} {odLU anLU : Option Addr} {slLU : Array (Option Value)} {ocLE kVLE docLE pmLE cdLE ctLE : Value} {odLE anLE : Option Addr} {slLE : Array (Option Value)} {ocLB kVLB docLB pmLB cdLB ctLB : Value} {odLB anLB : Option Addr} {slLB : Array (Option Value)} {ocLR kVLR docLR pmLR cdLR ctLR : Value} {odLR anLR : Option Addr} {slLR : Array (Option Value)} {ocLQ kVLQ docLQ pmLQ cdLQ ctLQ : Value} {odLQ anLQ : Option Addr} {slLQ : Array (Option Value)} {ocLaw kVLaw docLaw pmLaw cdLaw ctLaw : Value} {odLaw anLaw : Option Addr} {slLaw : Array (Option Value)} {ocI kVI docI pmI cdI ctI : Value} {odI anI : Option Addr} {slI : Array (Option Value)} {ocOF kVOF docOF pmOF cdOF ctOF : Value} {odOF anOF : Option Addr} {slOF : Array (Option Value)} {ocRD kVRD docRD pmRD cdRD ctRD : Value} {odRD anRD : Option Addr} {slRD : Array (Option Value)} {ocNM kVNM docNM pmNM cdNM ctNM : Value} {odNM anNM : Option Addr} {slNM : Array (Option Value)} {ocGT kVGT docGT pmGT cdGT ctGT : Value} {odGT anGT : Option Addr} {slGT : Array (Option Value)} {ocEQ kVEQ docEQ pmEQ cdEQ ctEQ : Value} {odEQ anEQ : Option Addr} {slEQ : Array (Option Value)} {ocST kVST docST pmST cdST ctST : Value} {odST anST : Option Addr} {slST : Array (Option Value)} {ocNI kVNI docNI pmNI cdNI ctNI : Value} {odNI anNI : Option Addr} {slNI : Array (Option Value)} {ocWA kVWA docWA pmWA cdWA ctWA : Value} {odWA anWA : Option Addr} {slWA : Array (Option Value)} {ocEA kVEA docEA pmEA cdEA ctEA : Value} {odEA anEA : Option Addr} {slEA : Array (Option Value)} {ocTI kVTI docTI pmTI cdTI ctTI : Value} {odTI anTI : Option Addr} {slTI : Array (Option Value)}
    (aIN : PySem.W.nsIn K mainGlobals "is_name" = some (some (.ref fIN)))
    (lIN : K.lookup fIN = some ⟨ocIN, odIN, .func (PySem.W.fnOf "is_name" "is_name" (defArgs s_is_name) (defBody s_is_name) (defScope s_is_name) .none kVIN docIN pmIN anIN cdIN ctIN), slIN⟩)
    (cIN : PySem.W.codeIn K cdIN "is_name" = true)
    (kIN : PySem.W.keepIn K (.ref fIN) = true)
    (aII : PySem.W.nsIn K mainGlobals "is_integer" = some (some (.ref fII)))
    (lII : K.lookup fII = some ⟨ocII, odII, .func (PySem.W.fnOf "is_integer" "is_integer" (defArgs s_is_integer) (defBody s_is_integer) (defScope s_is_integer) .none kVII docII pmII anII cdII ctII), slII⟩)
    (cII : PySem.W.codeIn K cdII "is_integer" = true)
    (kII : PySem.W.keepIn K (.ref fII) = true)
    (aGI : PySem.W.nsIn K mainGlobals "gives_integers" = some (some (.ref fGI)))
    (lGI : K.lookup fGI = some ⟨ocGI, odGI, .func (PySem.W.fnOf "gives_integers" "gives_integers" (defArgs s_gives_integers) (defBody s_gives_integers) (defScope s_gives_integers) .none kVGI docGI pmGI anGI cdGI ctGI), slGI⟩)
    (cGI : PySem.W.codeIn K cdGI "gives_integers" = true)
    (kGI : PySem.W.keepIn K (.ref fGI) = true)
    (aKN : PySem.W.nsIn K mainGlobals "kept_numbers" = some (some (.ref fKN)))
    (lKN : K.lookup fKN = some ⟨ocKN, odKN, .func (PySem.W.fnOf "kept_numbers" "kept_numbers" (defArgs s_kept_numbers) (defBody s_kept_numbers) (defScope s_kept_numbers) .none kVKN docKN pmKN anKN cdKN ctKN), slKN⟩)
    (cKN : PySem.W.codeIn K cdKN "kept_numbers" = true)
    (kKN : PySem.W.keepIn K (.ref fKN) = true)
    (aLO : PySem.W.nsIn K mainGlobals "line_of" = some (some (.ref fLO)))
    (lLO : K.lookup fLO = some ⟨ocLO, odLO, .func (PySem.W.fnOf "line_of" "line_of" (defArgs s_line_of) (defBody s_line_of) (defScope s_line_of) .none kVLO docLO pmLO anLO cdLO ctLO), slLO⟩)
    (cLO : PySem.W.codeIn K cdLO "line_of" = true)
    (kLO : PySem.W.keepIn K (.ref fLO) = true)
    (aRN : PySem.W.nsIn K mainGlobals "read_number" = some (some (.ref fRN)))
    (lRN : K.lookup fRN = some ⟨ocRN, odRN, .func (PySem.W.fnOf "read_number" "read_number" (defArgs s_read_number) (defBody s_read_number) (defScope s_read_number) .none kVRN docRN pmRN anRN cdRN ctRN), slRN⟩)
    (cRN : PySem.W.codeIn K cdRN "read_number" = true)
    (kRN : PySem.W.keepIn K (.ref fRN) = true)
    (aRS : PySem.W.nsIn K mainGlobals "read_numbers" = some (some (.ref fRS)))
    (lRS : K.lookup fRS = some ⟨ocRS, odRS, .func (PySem.W.fnOf "read_numbers" "read_numbers" (defArgs s_read_numbers) (defBody s_read_numbers) (defScope s_read_numbers) .none kVRS docRS pmRS anRS cdRS ctRS), slRS⟩)
    (cRS : PySem.W.codeIn K cdRS "read_numbers" = true)
    (kRS : PySem.W.keepIn K (.ref fRS) = true)
    (aRV : PySem.W.nsIn K mainGlobals "read_vector" = some (some (.ref fRV)))
    (lRV : K.lookup fRV = some ⟨ocRV, odRV, .func (PySem.W.fnOf "read_vector" "read_vector" (defArgs s_read_vector) (defBody s_read_vector) (defScope s_read_vector) .none kVRV docRV pmRV anRV cdRV ctRV), slRV⟩)
    (cRV : PySem.W.codeIn K cdRV "read_vector" = true)
    (kRV : PySem.W.keepIn K (.ref fRV) = true)
    (aNT : PySem.W.nsIn K mainGlobals "numbers_text" = some (some (.ref fNT)))
    (lNT : K.lookup fNT = some ⟨ocNT, odNT, .func (PySem.W.fnOf "numbers_text" "numbers_text" (defArgs s_numbers_text) (defBody s_numbers_text) (defScope s_numbers_text) .none kVNT docNT pmNT anNT cdNT ctNT), slNT⟩)
    (cNT : PySem.W.codeIn K cdNT "numbers_text" = true)
    (kNT : PySem.W.keepIn K (.ref fNT) = true)
    (aVT : PySem.W.nsIn K mainGlobals "vector_text" = some (some (.ref fVT)))
    (lVT : K.lookup fVT = some ⟨ocVT, odVT, .func (PySem.W.fnOf "vector_text" "vector_text" (defArgs s_vector_text) (defBody s_vector_text) (defScope s_vector_text) .none kVVT docVT pmVT anVT cdVT ctVT), slVT⟩)
    (cVT : PySem.W.codeIn K cdVT "vector_text" = true)
    (kVT : PySem.W.keepIn K (.ref fVT) = true)
    (aLP : PySem.W.nsIn K mainGlobals "_law_pen" = some (some (.ref fLP)))
    (lLP : K.lookup fLP = some ⟨ocLP, odLP, .func (PySem.W.fnOf "_law_pen" "_law_pen" (defArgs s_law_pen) (defBody s_law_pen) (defScope s_law_pen) .none kVLP docLP pmLP anLP cdLP ctLP), slLP⟩)
    (cLP : PySem.W.codeIn K cdLP "_law_pen" = true)
    (kLP : PySem.W.keepIn K (.ref fLP) = true)
    (aLD : PySem.W.nsIn K mainGlobals "_law_draw" = some (some (.ref fLD)))
    (lLD : K.lookup fLD = some ⟨ocLD, odLD, .func (PySem.W.fnOf "_law_draw" "_law_draw" (defArgs s_law_draw) (defBody s_law_draw) (defScope s_law_draw) .none kVLD docLD pmLD anLD cdLD ctLD), slLD⟩)
    (cLD : PySem.W.codeIn K cdLD "_law_draw" = true)
    (kLD : PySem.W.keepIn K (.ref fLD) = true)
    (aLK : PySem.W.nsIn K mainGlobals "_law_pick" = some (some (.ref fLK)))
    (lLK : K.lookup fLK = some ⟨ocLK, odLK, .func (PySem.W.fnOf "_law_pick" "_law_pick" (defArgs s_law_pick) (defBody s_law_pick) (defScope s_law_pick) .none kVLK docLK pmLK anLK cdLK ctLK), slLK⟩)
    (cLK : PySem.W.codeIn K cdLK "_law_pick" = true)
    (kLK : PySem.W.keepIn K (.ref fLK) = true)
    (aLW : PySem.W.nsIn K mainGlobals "_law_word" = some (some (.ref fLW)))
    (lLW : K.lookup fLW = some ⟨ocLW, odLW, .func (PySem.W.fnOf "_law_word" "_law_word" (defArgs s_law_word) (defBody s_law_word) (defScope s_law_word) .none kVLW docLW pmLW anLW cdLW ctLW), slLW⟩)
    (cLW : PySem.W.codeIn K cdLW "_law_word" = true)
    (kLW : PySem.W.keepIn K (.ref fLW) = true)
    (aLG : PySem.W.nsIn K mainGlobals "_law_great" = some (some (.ref fLG)))
    (lLG : K.lookup fLG = some ⟨ocLG, odLG, .func (PySem.W.fnOf "_law_great" "_law_great" (defArgs s_law_great) (defBody s_law_great) (defScope s_law_great) .none kVLG docLG pmLG anLG cdLG ctLG), slLG⟩)
    (cLG : PySem.W.codeIn K cdLG "_law_great" = true)
    (kLG : PySem.W.keepIn K (.ref fLG) = true)
    (aLH : PySem.W.nsIn K mainGlobals "_law_whole" = some (some (.ref fLH)))
    (lLH : K.lookup fLH = some ⟨ocLH, odLH, .func (PySem.W.fnOf "_law_whole" "_law_whole" (defArgs s_law_whole) (defBody s_law_whole) (defScope s_law_whole) .none kVLH docLH pmLH anLH cdLH ctLH), slLH⟩)
    (cLH : PySem.W.codeIn K cdLH "_law_whole" = true)
    (kLH : PySem.W.keepIn K (.ref fLH) = true)
    (aLI : PySem.W.nsIn K mainGlobals "_law_is_name" = some (some (.ref fLI)))
    (lLI : K.lookup fLI = some ⟨ocLI, odLI, .func (PySem.W.fnOf "_law_is_name" "_law_is_name" (defArgs s_law_is_name) (defBody s_law_is_name) (defScope s_law_is_name) .none kVLI docLI pmLI anLI cdLI ctLI), slLI⟩)
    (cLI : PySem.W.codeIn K cdLI "_law_is_name" = true)
    (kLI : PySem.W.keepIn K (.ref fLI) = true)
    (aLU : PySem.W.nsIn K mainGlobals "_law_is_number" = some (some (.ref fLU)))
    (lLU : K.lookup fLU = some ⟨ocLU, odLU, .func (PySem.W.fnOf "_law_is_number" "_law_is_number" (defArgs s_law_is_number) (defBody s_law_is_number) (defScope s_law_is_number) .none kVLU docLU pmLU anLU cdLU ctLU), slLU⟩)
    (cLU : PySem.W.codeIn K cdLU "_law_is_number" = true)
    (kLU : PySem.W.keepIn K (.ref fLU) = true)
    (aLE : PySem.W.nsIn K mainGlobals "_law_due" = some (some (.ref fLE)))
    (lLE : K.lookup fLE = some ⟨ocLE, odLE, .func (PySem.W.fnOf "_law_due" "_law_due" (defArgs s_law_due) (defBody s_law_due) (defScope s_law_due) .none kVLE docLE pmLE anLE cdLE ctLE), slLE⟩)
    (cLE : PySem.W.codeIn K cdLE "_law_due" = true)
    (kLE : PySem.W.keepIn K (.ref fLE) = true)
    (aLB : PySem.W.nsIn K mainGlobals "_law_bent" = some (some (.ref fLB)))
    (lLB : K.lookup fLB = some ⟨ocLB, odLB, .func (PySem.W.fnOf "_law_bent" "_law_bent" (defArgs s_law_bent) (defBody s_law_bent) (defScope s_law_bent) .none kVLB docLB pmLB anLB cdLB ctLB), slLB⟩)
    (cLB : PySem.W.codeIn K cdLB "_law_bent" = true)
    (kLB : PySem.W.keepIn K (.ref fLB) = true)
    (aLR : PySem.W.nsIn K mainGlobals "_law_heard" = some (some (.ref fLR)))
    (lLR : K.lookup fLR = some ⟨ocLR, odLR, .func (PySem.W.fnOf "_law_heard" "_law_heard" (defArgs s_law_heard) (defBody s_law_heard) (defScope s_law_heard) .none kVLR docLR pmLR anLR cdLR ctLR), slLR⟩)
    (cLR : PySem.W.codeIn K cdLR "_law_heard" = true)
    (kLR : PySem.W.keepIn K (.ref fLR) = true)
    (aLQ : PySem.W.nsIn K mainGlobals "_law_heard_right" = some (some (.ref fLQ)))
    (lLQ : K.lookup fLQ = some ⟨ocLQ, odLQ, .func (PySem.W.fnOf "_law_heard_right" "_law_heard_right" (defArgs s_law_heard_right) (defBody s_law_heard_right) (defScope s_law_heard_right) .none kVLQ docLQ pmLQ anLQ cdLQ ctLQ), slLQ⟩)
    (cLQ : PySem.W.codeIn K cdLQ "_law_heard_right" = true)
    (kLQ : PySem.W.keepIn K (.ref fLQ) = true)
    (aLaw : PySem.W.nsIn K mainGlobals "law" = some (some (.ref fLaw)))
    (lLaw : K.lookup fLaw = some ⟨ocLaw, odLaw, .func (PySem.W.fnOf "law" "law" (defArgs s_law) (defBody s_law) (defScope s_law) .none kVLaw docLaw pmLaw anLaw cdLaw ctLaw), slLaw⟩)
    (cLaw : PySem.W.codeIn K cdLaw "law" = true)
    (kLaw : PySem.W.keepIn K (.ref fLaw) = true)
    (aC : PySem.W.nsIn K mainGlobals "Vector" = some (some (.ref C)))
    (aCL : PySem.W.nsIn K mainGlobals "Line" = some (some (.ref CL)))
    (aCT : PySem.W.nsIn K mainGlobals "InvalidText" = some (some (.ref CT)))
    (aCN : PySem.W.nsIn K mainGlobals "NetError" = some (some (.ref CN)))
    (aCM : PySem.W.nsIn K mainGlobals "MissingError" = some (some (.ref CM)))
    (avd : PySem.W.nsIn K mainGlobals "VECTOR_DIGITS" = some (some (.int 60 vtok)))
    (mkC : PySem.W.makesIn K C = true)
    (kpC : PySem.W.keepIn K (.ref C) = true)
    (pgC : PySem.W.plainGet K C Str.empty = true)
    (hdC : PySem.W.hasDictIn K C = true)
    (poC : PySem.W.plainOver K C = true)
    (saC : PySem.W.findIn K (.ref C) "__setattr__" = some (some (.builtin "object.__setattr__")))
    (mkCL : PySem.W.makesIn K CL = true)
    (kpCL : PySem.W.keepIn K (.ref CL) = true)
    (pgCL : PySem.W.plainGet K CL Str.empty = true)
    (hdCL : PySem.W.hasDictIn K CL = true)
    (poCL : PySem.W.plainOver K CL = true)
    (saCL : PySem.W.findIn K (.ref CL) "__setattr__" = some (some (.builtin "object.__setattr__")))
    (nn : PySem.W.findIn K (.ref C) "_numbers" = some none)
    (nix : PySem.W.findIn K (.ref CL) "index" = some none)
    (nwd : PySem.W.findIn K (.ref CL) "words" = some none)
    (rd : PySem.W.readsIn K C (.type "type") = true)
    (rga : PySem.W.specialIn K (.ref C) "__getattribute__" = some (some (.builtin "type.__getattribute__")))
    (cmat : PySem.W.findCls K (.ref C) (.type "type") "of" = some (.get (.builtin "classmethod.__get__") (.ref pOf) .none (.ref C)))
    (cmrc : PySem.W.recIn K pOf "classmethod" = some (.ref fOF :: ro1))
    (cmfi : PySem.W.fnIn K fOF = true)
    (cdat : PySem.W.findCls K (.ref C) (.type "type") "read" = some (.get (.builtin "classmethod.__get__") (.ref pRd) .none (.ref C)))
    (cdrc : PySem.W.recIn K pRd "classmethod" = some (.ref fRD :: ro3))
    (cdfi : PySem.W.fnIn K fRD = true)
    (pnat : PySem.W.findIn K (.ref C) "names" = some (some (.ref pNm)))
    (pnget : PySem.W.specialIn K (.ref pNm) "__get__" = some (some (.builtin "property.__get__")))
    (pntak : PySem.W.takesIn K (.ref pNm) = some true)
    (pnrec : PySem.W.recIn K pNm "property" = some (.ref fNM :: ro2))
    (fiI : PySem.W.findIn K (.ref C) "__init__" = some (some (.ref fI)))
    (fnI : PySem.W.isFn K (.ref fI) = true)
    (lI : K.lookup fI = some ⟨ocI, odI, .func (PySem.W.fnOf "__init__" "Vector.__init__" (defArgs s_Vector___init__) (defBody s_Vector___init__) (defScope s_Vector___init__) .none kVI docI pmI anI cdI ctI), slI⟩)
    (cI : PySem.W.codeIn K cdI "Vector.__init__" = true)
    (kI : PySem.W.keepIn K (.ref fI) = true)
    (lOF : K.lookup fOF = some ⟨ocOF, odOF, .func (PySem.W.fnOf "of" "Vector.of" (defArgs s_Vector_of) (defBody s_Vector_of) (defScope s_Vector_of) .none kVOF docOF pmOF anOF cdOF ctOF), slOF⟩)
    (cOF : PySem.W.codeIn K cdOF "Vector.of" = true)
    (kOF : PySem.W.keepIn K (.ref fOF) = true)
    (lRD : K.lookup fRD = some ⟨ocRD, odRD, .func (PySem.W.fnOf "read" "Vector.read" (defArgs s_Vector_read) (defBody s_Vector_read) (defScope s_Vector_read) .none kVRD docRD pmRD anRD cdRD ctRD), slRD⟩)
    (cRD : PySem.W.codeIn K cdRD "Vector.read" = true)
    (kRD : PySem.W.keepIn K (.ref fRD) = true)
    (lNM : K.lookup fNM = some ⟨ocNM, odNM, .func (PySem.W.fnOf "names" "Vector.names" (defArgs s_Vector_names) (defBody s_Vector_names) (defScope s_Vector_names) .none kVNM docNM pmNM anNM cdNM ctNM), slNM⟩)
    (cNM : PySem.W.codeIn K cdNM "Vector.names" = true)
    (kNM : PySem.W.keepIn K (.ref fNM) = true)
    (fiGT : PySem.W.findIn K (.ref C) "__getitem__" = some (some (.ref fGT)))
    (fnGT : PySem.W.isFn K (.ref fGT) = true)
    (lGT : K.lookup fGT = some ⟨ocGT, odGT, .func (PySem.W.fnOf "__getitem__" "Vector.__getitem__" (defArgs s_Vector___getitem__) (defBody s_Vector___getitem__) (defScope s_Vector___getitem__) .none kVGT docGT pmGT anGT cdGT ctGT), slGT⟩)
    (cGT : PySem.W.codeIn K cdGT "Vector.__getitem__" = true)
    (kGT : PySem.W.keepIn K (.ref fGT) = true)
    (fiEQ : PySem.W.findIn K (.ref C) "__eq__" = some (some (.ref fEQ)))
    (fnEQ : PySem.W.isFn K (.ref fEQ) = true)
    (lEQ : K.lookup fEQ = some ⟨ocEQ, odEQ, .func (PySem.W.fnOf "__eq__" "Vector.__eq__" (defArgs s_Vector___eq__) (defBody s_Vector___eq__) (defScope s_Vector___eq__) .none kVEQ docEQ pmEQ anEQ cdEQ ctEQ), slEQ⟩)
    (cEQ : PySem.W.codeIn K cdEQ "Vector.__eq__" = true)
    (kEQ : PySem.W.keepIn K (.ref fEQ) = true)
    (fiST : PySem.W.findIn K (.ref C) "__str__" = some (some (.ref fST)))
    (fnST : PySem.W.isFn K (.ref fST) = true)
    (lST : K.lookup fST = some ⟨ocST, odST, .func (PySem.W.fnOf "__str__" "Vector.__str__" (defArgs s_Vector___str__) (defBody s_Vector___str__) (defScope s_Vector___str__) .none kVST docST pmST anST cdST ctST), slST⟩)
    (cST : PySem.W.codeIn K cdST "Vector.__str__" = true)
    (kST : PySem.W.keepIn K (.ref fST) = true)
    (fiNI : PySem.W.findIn K (.ref CL) "__init__" = some (some (.ref fNI)))
    (fnNI : PySem.W.isFn K (.ref fNI) = true)
    (lNI : K.lookup fNI = some ⟨ocNI, odNI, .func (PySem.W.fnOf "__init__" "Line.__init__" (defArgs s_Line___init__) (defBody s_Line___init__) (defScope s_Line___init__) .none kVNI docNI pmNI anNI cdNI ctNI), slNI⟩)
    (cNI : PySem.W.codeIn K cdNI "Line.__init__" = true)
    (kNI : PySem.W.keepIn K (.ref fNI) = true)
    (fiWA : PySem.W.findIn K (.ref CL) "word_at" = some (some (.ref fWA)))
    (fnWA : PySem.W.isFn K (.ref fWA) = true)
    (lWA : K.lookup fWA = some ⟨ocWA, odWA, .func (PySem.W.fnOf "word_at" "Line.word_at" (defArgs s_Line_word_at) (defBody s_Line_word_at) (defScope s_Line_word_at) .none kVWA docWA pmWA anWA cdWA ctWA), slWA⟩)
    (cWA : PySem.W.codeIn K cdWA "Line.word_at" = true)
    (kWA : PySem.W.keepIn K (.ref fWA) = true)
    (fiEA : PySem.W.findIn K (.ref CL) "end_at" = some (some (.ref fEA)))
    (fnEA : PySem.W.isFn K (.ref fEA) = true)
    (lEA : K.lookup fEA = some ⟨ocEA, odEA, .func (PySem.W.fnOf "end_at" "Line.end_at" (defArgs s_Line_end_at) (defBody s_Line_end_at) (defScope s_Line_end_at) .none kVEA docEA pmEA anEA cdEA ctEA), slEA⟩)
    (cEA : PySem.W.codeIn K cdEA "Line.end_at" = true)
    (kEA : PySem.W.keepIn K (.ref fEA) = true)
    (fiTI : PySem.W.findIn K (.ref CT) "__init__" = some (some (.ref fTI)))
    (lTI : K.lookup fTI = some ⟨ocTI, odTI, .func (PySem.W.fnOf "__init__" "InvalidText.__init__" (defArgs s_InvalidText___init__) (defBody s_InvalidText___init__) (defScope s_InvalidText___init__) .none kVTI docTI pmTI anTI cdTI ctTI), slTI⟩)
    (cTI : PySem.W.codeIn K cdTI "InvalidText.__init__" = true)
    (kTI : PySem.W.keepIn K (.ref fTI) = true)
    (fnGTi : PySem.W.fnIn K fGT = true)
    (neV : PySem.W.findIn K (.ref C) "__ne__" = some (some (.builtin "object.__ne__")))
    (nf : PySem.W.notFirst K C (.ref C) = true)
    (ca : PySem.W.findIn K (.ref C) "__class__" = some (some (.builtin "object.__class__")))
    (cn : PySem.W.specialIn K (.builtin "object.__class__") "__get__" = some (some (.builtin "getset_descriptor.__get__")))
    (ctk : PySem.W.takesIn K (.builtin "object.__class__") = some true)
    (cm : PySem.W.mroIn K C (.type "object") = some true)
    (sbs : PySem.W.subIn K (.ref C) (.type "str") = some false)
    (tTI : PySem.W.typeIn K (.ref fTI) = some (.type "function"))
    (xL : K.lookup CT = some (excClassObj xnm xq CT xN xbs [.ref CN, .type "ValueError", .type "Exception", .type "BaseException", .type "object"] true xsn xsub xab xcol xdd m0 m1 m2 m3 m5 "ValueError.__new__"))
    (saT : PySem.W.findIn K (.ref CT) "__setattr__" = some (some (.builtin "object.__setattr__")))
    (exT : PySem.W.subIn K (.ref CT) (.type "BaseException") = some true)
    (tyT : PySem.W.typeIn K (.ref CT) = some (.type "type"))
    (kpT : PySem.W.keepIn K (.ref CT) = true)
    (nlT : PySem.W.findIn K (.ref CT) "line" = some none)
    (nwT : PySem.W.findIn K (.ref CT) "word" = some none)
    (hdT : PySem.W.hasDictIn K CT = true)
    (gaT : PySem.W.findIn K (.ref CT) "__getattribute__" = some (some (.builtin "BaseException.__getattribute__")))
    (ggT : PySem.W.findIn K (.ref CT) "__getattr__" = some none)
    (caT : PySem.W.findIn K (.ref CT) "__class__" = some (some (.builtin "object.__class__")))
    (cmT : PySem.W.mroIn K CT (.type "object") = some true)
    (exCN : PySem.W.subIn K (.ref CN) (.type "BaseException") = some true)
    (tyCN : PySem.W.typeIn K (.ref CN) = some (.type "type"))
    (hdCN : PySem.W.hasDictIn K CN = true)
    (exCM : PySem.W.subIn K (.ref CM) (.type "BaseException") = some true)
    (tyCM : PySem.W.typeIn K (.ref CM) = some (.type "type"))
    (hdCM : PySem.W.hasDictIn K CM = true)
    (sTN : PySem.W.subIn K (.ref CT) (.ref CN) = some true)
    (sTM : PySem.W.subIn K (.ref CT) (.ref CM) = some false)
    (sTV : PySem.W.subIn K (.ref CT) (.type "ValueError") = some true)
    (z_int : PySem.W.nsIn K mainGlobals "int" = some none)
    (z_bool : PySem.W.nsIn K mainGlobals "bool" = some none)
    (z_str : PySem.W.nsIn K mainGlobals "str" = some none)
    (z_len : PySem.W.nsIn K mainGlobals "len" = some none)
    (z_isinstance : PySem.W.nsIn K mainGlobals "isinstance" = some none)
    (z_dict : PySem.W.nsIn K mainGlobals "dict" = some none)
    (z_all : PySem.W.nsIn K mainGlobals "all" = some none)
    (z_sum : PySem.W.nsIn K mainGlobals "sum" = some none)
    (z_sorted : PySem.W.nsIn K mainGlobals "sorted" = some none)
    (z_set : PySem.W.nsIn K mainGlobals "set" = some none)
    (z_list : PySem.W.nsIn K mainGlobals "list" = some none)
    (z_tuple : PySem.W.nsIn K mainGlobals "tuple" = some none)
    (z_range : PySem.W.nsIn K mainGlobals "range" = some none)
    (z_abs : PySem.W.nsIn K mainGlobals "abs" = some none)
    (z_repr : PySem.W.nsIn K mainGlobals "repr" = some none)
    (z_enumerate : PySem.W.nsIn K mainGlobals "enumerate" = some none)
    (z_max : PySem.W.nsIn K mainGlobals "max" = some none)
    (z_ValueError : PySem.W.nsIn K mainGlobals "ValueError" = some none) :
    ∃ fd : FuncData, (∀ (s : Shared) (u : Value), BindsTo s fd ⟨[u], []⟩ [("_law_script", u)]) ∧ ∀ base : Heap, K.In base → base.Ns mainGlobals mg → FnG P w K mg base CX0 12 fa fd ["_law_script"] (spLaw K) := by
  have e := hfa.symm.trans (PySem.W.mg_of X G aLaw)
  cases e
  have FIN := fun_mk (st := s_is_name) lIN cIN kIN
  have bIN := FIN.binds (ps := ["value"]) fun _ _ _ _ _ _ us hl => match us, hl with | [_], _ => rfl
  have FII := fun_mk (st := s_is_integer) lII cII kII
  have bII := FII.binds (ps := ["value"]) fun _ _ _ _ _ _ us hl => match us, hl with | [_], _ => rfl
  have FGI := fun_mk (st := s_gives_integers) lGI cGI kGI
  have bGI := FGI.binds (ps := ["value"]) fun _ _ _ _ _ _ us hl => match us, hl with | [_], _ => rfl
  have FKN := fun_mk (st := s_kept_numbers) lKN cKN kKN
  have bKN := FKN.binds (ps := ["numbers"]) fun _ _ _ _ _ _ us hl => match us, hl with | [_], _ => rfl
  have FLO := fun_mk (st := s_line_of) lLO cLO kLO
  have bLO := FLO.binds (ps := ["text"]) fun _ _ _ _ _ _ us hl => match us, hl with | [_], _ => rfl
  have FRN := fun_mk (st := s_read_number) lRN cRN kRN
  have bRN := FRN.binds (ps := ["word", "most"]) fun _ _ _ _ _ _ us hl => match us, hl with | [_, _], _ => rfl
  have FRS := fun_mk (st := s_read_numbers) lRS cRS kRS
  have bRS := FRS.binds (ps := ["line", "start", "most"]) fun _ _ _ _ _ _ us hl => match us, hl with | [_, _, _], _ => rfl
  have FRV := fun_mk (st := s_read_vector) lRV cRV kRV
  have bRV := FRV.binds (ps := ["line", "start"]) fun _ _ _ _ _ _ us hl => match us, hl with | [_, _], _ => rfl
  have FNT := fun_mk (st := s_numbers_text) lNT cNT kNT
  have bNT := FNT.binds (ps := ["numbers"]) fun _ _ _ _ _ _ us hl => match us, hl with | [_], _ => rfl
  have FVT := fun_mk (st := s_vector_text) lVT cVT kVT
  have bVT := FVT.binds (ps := ["numbers"]) fun _ _ _ _ _ _ us hl => match us, hl with | [_], _ => rfl
  have FLP := fun_mk (st := s_law_pen) lLP cLP kLP
  have bLP := FLP.binds (ps := ["_law_script"]) fun _ _ _ _ _ _ us hl => match us, hl with | [_], _ => rfl
  have FLD := fun_mk (st := s_law_draw) lLD cLD kLD
  have bLD := FLD.binds (ps := ["_law_pen_here", "_law_many"]) fun _ _ _ _ _ _ us hl => match us, hl with | [_, _], _ => rfl
  have FLK := fun_mk (st := s_law_pick) lLK cLK kLK
  have bLK := FLK.binds (ps := ["_law_pen_here", "_law_some"]) fun _ _ _ _ _ _ us hl => match us, hl with | [_, _], _ => rfl
  have FLW := fun_mk (st := s_law_word) lLW cLW kLW
  have bLW := FLW.binds (ps := ["_law_pen_here"]) fun _ _ _ _ _ _ us hl => match us, hl with | [_], _ => rfl
  have FLG := fun_mk (st := s_law_great) lLG cLG kLG
  have bLG := FLG.binds (ps := ["_law_pen_here", "_law_most"]) fun _ _ _ _ _ _ us hl => match us, hl with | [_, _], _ => rfl
  have FLH := fun_mk (st := s_law_whole) lLH cLH kLH
  have bLH := FLH.binds (ps := ["_law_pen_here"]) fun _ _ _ _ _ _ us hl => match us, hl with | [_], _ => rfl
  have FLI := fun_mk (st := s_law_is_name) lLI cLI kLI
  have bLI := FLI.binds (ps := ["_law_thing"]) fun _ _ _ _ _ _ us hl => match us, hl with | [_], _ => rfl
  have FLU := fun_mk (st := s_law_is_number) lLU cLU kLU
  have bLU := FLU.binds (ps := ["_law_digits"]) fun _ _ _ _ _ _ us hl => match us, hl with | [_], _ => rfl
  have FLE := fun_mk (st := s_law_due) lLE cLE kLE
  have bLE := FLE.binds (ps := ["_law_text_so"]) fun _ _ _ _ _ _ us hl => match us, hl with | [_], _ => rfl
  have FLB := fun_mk (st := s_law_bent) lLB cLB kLB
  have bLB := FLB.binds (ps := ["_law_pen_here", "_law_words"]) fun _ _ _ _ _ _ us hl => match us, hl with | [_, _], _ => rfl
  have FLR := fun_mk (st := s_law_heard) lLR cLR kLR
  have bLR := FLR.binds (ps := ["_law_text_so"]) fun _ _ _ _ _ _ us hl => match us, hl with | [_], _ => rfl
  have FLQ := fun_mk (st := s_law_heard_right) lLQ cLQ kLQ
  have bLQ := FLQ.binds (ps := ["_law_text_so"]) fun _ _ _ _ _ _ us hl => match us, hl with | [_], _ => rfl
  have FI := fun_mk (st := s_Vector___init__) lI cI kI
  have FOF := fun_mk (st := s_Vector_of) lOF cOF kOF
  have bOF := FOF.binds (ps := ["cls", "numbers"]) fun _ _ _ _ _ _ us hl => match us, hl with | [_, _], _ => rfl
  have FRD := fun_mk (st := s_Vector_read) lRD cRD kRD
  have bRD := FRD.binds (ps := ["cls", "text"]) fun _ _ _ _ _ _ us hl => match us, hl with | [_, _], _ => rfl
  have FNM := fun_mk (st := s_Vector_names) lNM cNM kNM
  have bNM := FNM.binds (ps := ["self"]) fun _ _ _ _ _ _ us hl => match us, hl with | [_], _ => rfl
  have FGT := fun_mk (st := s_Vector___getitem__) lGT cGT kGT
  have bGT := FGT.binds (ps := ["self", "at"]) fun _ _ _ _ _ _ us hl => match us, hl with | [_, _], _ => rfl
  have FEQ := fun_mk (st := s_Vector___eq__) lEQ cEQ kEQ
  have bEQ := FEQ.binds (ps := ["self", "other"]) fun _ _ _ _ _ _ us hl => match us, hl with | [_, _], _ => rfl
  have FST := fun_mk (st := s_Vector___str__) lST cST kST
  have bST := FST.binds (ps := ["self"]) fun _ _ _ _ _ _ us hl => match us, hl with | [_], _ => rfl
  have FNI := fun_mk (st := s_Line___init__) lNI cNI kNI
  have bNI := FNI.binds (ps := ["self", "index", "text"]) fun _ _ _ _ _ _ us hl => match us, hl with | [_, _, _], _ => rfl
  have FWA := fun_mk (st := s_Line_word_at) lWA cWA kWA
  have bWA := FWA.binds (ps := ["self", "at"]) fun _ _ _ _ _ _ us hl => match us, hl with | [_, _], _ => rfl
  have FEA := fun_mk (st := s_Line_end_at) lEA cEA kEA
  have bEA := FEA.binds (ps := ["self", "at"]) fun _ _ _ _ _ _ us hl => match us, hl with | [_, _], _ => rfl
  have FTI := fun_mk (st := s_InvalidText___init__) lTI cTI kTI
  have bTI := FTI.binds (ps := ["self", "line", "word"]) fun _ _ _ _ _ _ us hl => match us, hl with | [_, _, _], _ => rfl
  have kbRD := kb_two FRD (a := "cls") (b := "text") (fun _ _ _ _ _ _ _ _ => rfl)
  let V : VF K mg := {
    C := C, pOf := pOf, pRd := pRd, pNm := pNm, CL := CL, CT := CT, CN := CN, CM := CM, vd := .int 60 vtok, mc := .type "type"
    fIN := fIN, dIN := _
    fII := fII, dII := _
    fGI := fGI, dGI := _
    fKN := fKN, dKN := _
    fLO := fLO, dLO := _
    fRN := fRN, dRN := _
    fRS := fRS, dRS := _
    fRV := fRV, dRV := _
    fNT := fNT, dNT := _
    fVT := fVT, dVT := _
    fLP := fLP, dLP := _
    fLD := fLD, dLD := _
    fLK := fLK, dLK := _
    fLW := fLW, dLW := _
    fLG := fLG, dLG := _
    fLH := fLH, dLH := _
    fLI := fLI, dLI := _
    fLU := fLU, dLU := _
    fLE := fLE, dLE := _
    fLB := fLB, dLB := _
    fLR := fLR, dLR := _
    fLQ := fLQ, dLQ := _
    fI := fI, dI := _
    fOF := fOF, dOF := _
    fRD := fRD, dRD := _
    fNM := fNM, dNM := _
    fGT := fGT, dGT := _
    fEQ := fEQ, dEQ := _
    fST := fST, dST := _
    fNI := fNI, dNI := _
    fWA := fWA, dWA := _
    fEA := fEA, dEA := _
    fTI := fTI, dTI := _
    t := ⟨PySem.W.mg_none_of X G z_int, PySem.W.mg_none_of X G z_bool, PySem.W.mg_none_of X G z_str, PySem.W.mg_none_of X G z_len, PySem.W.mg_none_of X G z_isinstance, PySem.W.mg_none_of X G z_dict, PySem.W.mg_none_of X G z_all, PySem.W.mg_none_of X G z_sum, PySem.W.mg_none_of X G z_sorted, PySem.W.mg_none_of X G z_set, PySem.W.mg_none_of X G z_list, PySem.W.mg_none_of X G z_tuple, PySem.W.mg_none_of X G z_range, PySem.W.mg_none_of X G z_abs, PySem.W.mg_none_of X G z_repr⟩
    u := ⟨PySem.W.mg_none_of X G z_enumerate, PySem.W.mg_none_of X G z_max, PySem.W.mg_none_of X G z_ValueError⟩
    F_is_name := FIN, b_is_name := bIN, g_is_name := PySem.W.mg_of X G aIN
    F_is_integer := FII, b_is_integer := bII, g_is_integer := PySem.W.mg_of X G aII
    F_gives_integers := FGI, b_gives_integers := bGI, g_gives_integers := PySem.W.mg_of X G aGI
    F_kept_numbers := FKN, b_kept_numbers := bKN, g_kept_numbers := PySem.W.mg_of X G aKN
    F_line_of := FLO, b_line_of := bLO, g_line_of := PySem.W.mg_of X G aLO
    F_read_number := FRN, b_read_number := bRN, g_read_number := PySem.W.mg_of X G aRN
    F_read_numbers := FRS, b_read_numbers := bRS, g_read_numbers := PySem.W.mg_of X G aRS
    F_read_vector := FRV, b_read_vector := bRV, g_read_vector := PySem.W.mg_of X G aRV
    F_numbers_text := FNT, b_numbers_text := bNT, g_numbers_text := PySem.W.mg_of X G aNT
    F_vector_text := FVT, b_vector_text := bVT, g_vector_text := PySem.W.mg_of X G aVT
    F_law_pen := FLP, b_law_pen := bLP, g_law_pen := PySem.W.mg_of X G aLP
    F_law_draw := FLD, b_law_draw := bLD, g_law_draw := PySem.W.mg_of X G aLD
    F_law_pick := FLK, b_law_pick := bLK, g_law_pick := PySem.W.mg_of X G aLK
    F_law_word := FLW, b_law_word := bLW, g_law_word := PySem.W.mg_of X G aLW
    F_law_great := FLG, b_law_great := bLG, g_law_great := PySem.W.mg_of X G aLG
    F_law_whole := FLH, b_law_whole := bLH, g_law_whole := PySem.W.mg_of X G aLH
    F_law_is_name := FLI, b_law_is_name := bLI, g_law_is_name := PySem.W.mg_of X G aLI
    F_law_is_number := FLU, b_law_is_number := bLU, g_law_is_number := PySem.W.mg_of X G aLU
    F_law_due := FLE, b_law_due := bLE, g_law_due := PySem.W.mg_of X G aLE
    F_law_bent := FLB, b_law_bent := bLB, g_law_bent := PySem.W.mg_of X G aLB
    F_law_heard := FLR, b_law_heard := bLR, g_law_heard := PySem.W.mg_of X G aLR
    F_law_heard_right := FLQ, b_law_heard_right := bLQ, g_law_heard_right := PySem.W.mg_of X G aLQ
    F_init := FI
    F_of := FOF, b_of := bOF
    F_read := FRD, b_read := bRD
    F_names := FNM, b_names := bNM
    F_item := FGT, b_item := bGT
    F_eq := FEQ, b_eq := bEQ
    F_str := FST, b_str := bST
    F_linit := FNI, b_linit := bNI
    F_wordat := FWA, b_wordat := bWA
    F_endat := FEA, b_endat := bEA
    F_tinit := FTI, b_tinit := bTI
    kb_read := kbRD
    g_Vector := PySem.W.mg_of X G aC
    mk_V := ⟨mkC, fiI, fnI, kpC⟩
    c_V := ⟨pgC, hdC, poC, saC⟩
    n_num := nn
    O_eq := ⟨fiEQ, fnEQ⟩
    O_item := ⟨fiGT, fnGT⟩
    O_str := ⟨fiST, fnST⟩
    fn_item := fnGTi
    ne_V := neV
    rd_V := ⟨rd, rga⟩
    cm_of := ⟨cmat, ⟨_, cmrc⟩, cmfi⟩
    cm_read := ⟨cdat, ⟨_, cdrc⟩, cdfi⟩
    p_names := ⟨pnat, pnget, pntak, ⟨_, pnrec⟩⟩
    nf_V := nf
    ca := ca
    cn := cn
    ctk := ctk
    cm := cm
    notStr := kit_sub (by decide +kernel) sbs
    g_Line := PySem.W.mg_of X G aCL
    mk_L := ⟨mkCL, fiNI, fnNI, kpCL⟩
    c_L := ⟨pgCL, hdCL, poCL, saCL⟩
    n_index := nix
    n_words := nwd
    m_wordat := ⟨fiWA, fnWA, kWA⟩
    m_endat := ⟨fiEA, fnEA, kEA⟩
    g_InvalidText := PySem.W.mg_of X G aCT
    g_NetError := PySem.W.mg_of X G aCN
    g_MissingError := PySem.W.mg_of X G aCM
    o_T := ⟨⟨_, _, _, _, _, _, _, _, _, _, _, _, _, _, _, xL, rfl⟩, saT, exT, tyT, kpT⟩
    i_T := fiTI
    t_T := tTI
    n_line := nlT
    n_word := nwT
    ask_T := ⟨hdT, gaT, ggT, exT, caT, cn, ctk, cmT, kpT⟩
    ex_T := exm_two (PySem.W.exm_ref exCN hdCN tyCN sTN) (PySem.W.exm_ref exCM hdCM tyCM sTM)
    k_TT := kit_self
    k_TV := kit_sub (by decide +kernel) sTV
    g_vd := PySem.W.mg_of X G avd
    r_vd := ⟨_, rfl⟩ }
  exact ⟨_, fun s v => .of_eq rfl, fun base _ _ => ok_law V (fun_mk (st := s_law) lLaw cLaw kLaw)⟩

end K5
open PySem PySem.W PyProof.Rows
set_option maxRecDepth 100000 in
set_option maxHeartbeats 0 in
theorem PySem.Challenge.cw_evenends_k05_vectors_written_and_read_holds : PySem.Challenge.rw_evenends_k05_vectors_written_and_read.Holds := by
  w_on; o_law; k_head; (case hw => w_witness2)
  k_fill
  refine EvG.walkG (x := "_law_script") (k := 12) (n := 63) (sp := K5.spLaw) (l := PySem.Challenge.rw_evenends_k05_vectors_written_and_read) rfl (by decide) rfl ⟨rfl, by decide, by decide⟩ (fun w h Y => PySem.W.kIn_of Y) ?F (fun K H a ns hl _ hS => ⟨a, ns, rfl, hS, hl, fun _ => rfl⟩)
  case F =>
    intro w mg fa h KX G hmg
    refine' K5.all_mk KX G hmg ?aIN ?lIN ?cIN ?kIN ?aII ?lII ?cII ?kII ?aGI ?lGI ?cGI ?kGI ?aKN ?lKN ?cKN ?kKN ?aLO ?lLO ?cLO ?kLO ?aRN ?lRN ?cRN ?kRN ?aRS ?lRS ?cRS ?kRS ?aRV ?lRV ?cRV ?kRV ?aNT ?lNT ?cNT ?kNT ?aVT ?lVT ?cVT ?kVT ?aLP ?lLP ?cLP ?kLP ?aLD ?lLD ?cLD ?kLD ?aLK ?lLK ?cLK ?kLK ?aLW ?lLW ?cLW ?kLW ?aLG ?lLG ?cLG ?kLG ?aLH ?lLH ?cLH ?kLH ?aLI ?lLI ?cLI ?kLI ?aLU ?lLU ?cLU ?kLU ?aLE ?lLE ?cLE ?kLE ?aLB ?lLB ?cLB ?kLB ?aLR ?lLR ?cLR ?kLR ?aLQ ?lLQ ?cLQ ?kLQ ?aLaw ?lLaw ?cLaw ?kLaw ?aC ?aCL ?aCT ?aCN ?aCM ?avd ?mkC ?kpC ?pgC ?hdC ?poC ?saC ?mkCL ?kpCL ?pgCL ?hdCL ?poCL ?saCL ?nn ?nix ?nwd ?rd ?rga ?cmat ?cmrc ?cmfi ?cdat ?cdrc ?cdfi ?pnat ?pnget ?pntak ?pnrec ?fiI ?fnI ?lI ?cI ?kI ?lOF ?cOF ?kOF ?lRD ?cRD ?kRD ?lNM ?cNM ?kNM ?fiGT ?fnGT ?lGT ?cGT ?kGT ?fiEQ ?fnEQ ?lEQ ?cEQ ?kEQ ?fiST ?fnST ?lST ?cST ?kST ?fiNI ?fnNI ?lNI ?cNI ?kNI ?fiWA ?fnWA ?lWA ?cWA ?kWA ?fiEA ?fnEA ?lEA ?cEA ?kEA ?fiTI ?lTI ?cTI ?kTI ?fnGTi ?neV ?nf ?ca ?cn ?ctk ?cm ?sbs ?tTI ?xL ?saT ?exT ?tyT ?kpT ?nlT ?nwT ?hdT ?gaT ?ggT ?caT ?cmT ?exCN ?tyCN ?hdCN ?exCM ?tyCM ?hdCM ?sTN ?sTM ?sTV ?z_int ?z_bool ?z_str ?z_len ?z_isinstance ?z_dict ?z_all ?z_sum ?z_sorted ?z_set ?z_list ?z_tuple ?z_range ?z_abs ?z_repr ?z_enumerate ?z_max ?z_ValueError
    (case aIN => k_is)
    (case lIN => k_is)
    (case cIN => k_is)
    (case kIN => k_is)
    (case aII => k_is)
    (case lII => k_is)
    (case cII => k_is)
    (case kII => k_is)
    (case aGI => k_is)
    (case lGI => k_is)
    (case cGI => k_is)
    (case kGI => k_is)
    (case aKN => k_is)
    (case lKN => k_is)
    (case cKN => k_is)
    (case kKN => k_is)
    (case aLO => k_is)
    (case lLO => k_is)
    (case cLO => k_is)
    (case kLO => k_is)
    (case aRN => k_is)
    (case lRN => k_is)
    (case cRN => k_is)
    (case kRN => k_is)
    (case aRS => k_is)
    (case lRS => k_is)
    (case cRS => k_is)
    (case kRS => k_is)
    (case aRV => k_is)
    (case lRV => k_is)
    (case cRV => k_is)
    (case kRV => k_is)
    (case aNT => k_is)
    (case lNT => k_is)
    (case cNT => k_is)
    (case kNT => k_is)
    (case aVT => k_is)
    (case lVT => k_is)
    (case cVT => k_is)
    (case kVT => k_is)
    (case aLP => k_is)
    (case lLP => k_is)
    (case cLP => k_is)
    (case kLP => k_is)
    (case aLD => k_is)
    (case lLD => k_is)
    (case cLD => k_is)
    (case kLD => k_is)
    (case aLK => k_is)
    (case lLK => k_is)
    (case cLK => k_is)
    (case kLK => k_is)
    (case aLW => k_is)
    (case lLW => k_is)
    (case cLW => k_is)
    (case kLW => k_is)
    (case aLG => k_is)
    (case lLG => k_is)
    (case cLG => k_is)
    (case kLG => k_is)
    (case aLH => k_is)
    (case lLH => k_is)
    (case cLH => k_is)
    (case kLH => k_is)
    (case aLI => k_is)
    (case lLI => k_is)
    (case cLI => k_is)
    (case kLI => k_is)
    (case aLU => k_is)
    (case lLU => k_is)
    (case cLU => k_is)
    (case kLU => k_is)
    (case aLE => k_is)
    (case lLE => k_is)
    (case cLE => k_is)
    (case kLE => k_is)
    (case aLB => k_is)
    (case lLB => k_is)
    (case cLB => k_is)
    (case kLB => k_is)
    (case aLR => k_is)
    (case lLR => k_is)
    (case cLR => k_is)
    (case kLR => k_is)
    (case aLQ => k_is)
    (case lLQ => k_is)
    (case cLQ => k_is)
    (case kLQ => k_is)
    (case aLaw => k_is)
    (case lLaw => k_is)
    (case cLaw => k_is)
    (case kLaw => k_is)
    (case aC => k_is)
    (case aCL => k_is)
    (case aCT => k_is)
    (case aCN => k_is)
    (case aCM => k_is)
    (case avd => k_is)
    (case mkC => k_is)
    (case kpC => k_is)
    (case pgC => k_is)
    (case hdC => k_is)
    (case poC => k_is)
    (case saC => k_is)
    (case mkCL => k_is)
    (case kpCL => k_is)
    (case pgCL => k_is)
    (case hdCL => k_is)
    (case poCL => k_is)
    (case saCL => k_is)
    (case nn => k_is)
    (case nix => k_is)
    (case nwd => k_is)
    (case rd => k_is)
    (case rga => k_is)
    (case cmat => k_is)
    (case cmrc => k_is)
    (case cmfi => k_is)
    (case cdat => k_is)
    (case cdrc => k_is)
    (case cdfi => k_is)
    (case pnat => k_is)
    (case pnget => k_is)
    (case pntak => k_is)
    (case pnrec => k_is)
    (case fiI => k_is)
    (case fnI => k_is)
    (case lI => k_is)
    (case cI => k_is)
    (case kI => k_is)
    (case lOF => k_is)
    (case cOF => k_is)
    (case kOF => k_is)
    (case lRD => k_is)
    (case cRD => k_is)
    (case kRD => k_is)
    (case lNM => k_is)
    (case cNM => k_is)
    (case kNM => k_is)
    (case fiGT => k_is)
    (case fnGT => k_is)
    (case lGT => k_is)
    (case cGT => k_is)
    (case kGT => k_is)
    (case fiEQ => k_is)
    (case fnEQ => k_is)
    (case lEQ => k_is)
    (case cEQ => k_is)
    (case kEQ => k_is)
    (case fiST => k_is)
    (case fnST => k_is)
    (case lST => k_is)
    (case cST => k_is)
    (case kST => k_is)
    (case fiNI => k_is)
    (case fnNI => k_is)
    (case lNI => k_is)
    (case cNI => k_is)
    (case kNI => k_is)
    (case fiWA => k_is)
    (case fnWA => k_is)
    (case lWA => k_is)
    (case cWA => k_is)
    (case kWA => k_is)
    (case fiEA => k_is)
    (case fnEA => k_is)
    (case lEA => k_is)
    (case cEA => k_is)
    (case kEA => k_is)
    (case fiTI => k_is)
    (case lTI => k_is)
    (case cTI => k_is)
    (case kTI => k_is)
    (case fnGTi => k_is)
    (case neV => k_is)
    (case nf => k_is)
    (case ca => k_is)
    (case cn => k_is)
    (case ctk => k_is)
    (case cm => k_is)
    (case sbs => k_is)
    (case tTI => k_is)
    (case xL => k_is)
    (case saT => k_is)
    (case exT => k_is)
    (case tyT => k_is)
    (case kpT => k_is)
    (case nlT => k_is)
    (case nwT => k_is)
    (case hdT => k_is)
    (case gaT => k_is)
    (case ggT => k_is)
    (case caT => k_is)
    (case cmT => k_is)
    (case exCN => k_is)
    (case tyCN => k_is)
    (case hdCN => k_is)
    (case exCM => k_is)
    (case tyCM => k_is)
    (case hdCM => k_is)
    (case sTN => k_is)
    (case sTM => k_is)
    (case sTV => k_is)
    (case z_int => k_is)
    (case z_bool => k_is)
    (case z_str => k_is)
    (case z_len => k_is)
    (case z_isinstance => k_is)
    (case z_dict => k_is)
    (case z_all => k_is)
    (case z_sum => k_is)
    (case z_sorted => k_is)
    (case z_set => k_is)
    (case z_list => k_is)
    (case z_tuple => k_is)
    (case z_range => k_is)
    (case z_abs => k_is)
    (case z_repr => k_is)
    (case z_enumerate => k_is)
    (case z_max => k_is)
    (case z_ValueError => k_is)
