import PyProof.Rows.All
import Wide.All
import OpenK.AllK
import Wide.FinOn
import HandS.ForMost
import HandS.IsInst
import HandS.StrMore
import HandS.Steps
import HandS.Walk
import HandS.ExcInit
import HandS.ExcOwn
import HandS.ExcField
import KE.KExcInit
import KE.KExcIs
import HandS.ExcValue
import HandS.ListItems
import PyProof.EnumIter
import PyProof.EnumMake
import PyProof.EnumStmt
import KE.KItemsList
import PyProof.DictUpdate
import PyProof.DictKeyH
import KE.KParD
import HandS.Base
import HandS.Call
import HandS.Dict
import HandS.Star
import HandS.MakeKw
import HandS.OwnEq
import HandS.FStr
import KE.KFmtOwn
import HandS.Exc
import KE.KTryMore
import HandS.SetTxt0
import HandS.SetFor
import HandS.Strs
import HandS.DictComp
import KE.KOpsOwn
import HandS.Property
import HandS.ClsMeth
import HandS.Comp
import PyProof.Rows.StrMeet
import PyProof.TupleOfGen
import KE.KDictSum
import HandS.Small
import HandS.TupLe
import HandS.Wide
import HandS.WordsDict
import PySem.Challenge.RW_evenends_k04_vectors_added_and_multiplie
set_option Elab.async false
set_option linter.all false
set_option maxRecDepth 100000
set_option maxHeartbeats 4000000

/-! Defs that may show data: their promise is asked where no object is being shown (no guard is set). -/
namespace EvG
open PySem PySem.Spec PyProof.Rows L2

/-- a def's promise, asked only where nothing is being shown -/
structure FnG (P : Program) (w : World) (K : PySem.W.Frag) (mg : Str → Option Value) (base : Heap) (CX : CXT) (k : Nat) (f : Addr) (fd : FuncData) (ps : List Str) (sp : Sp) : Prop where
  len : ∀ vs H Q E, sp vs H Q E → vs.length = ps.length
  go : ∀ (A : Around) (outer : List Env) (s : Shared) (H : Hp) (args : Args) (us : List Value) (vs : List V) (Q : VK) (E : XK), A.guards = some [] → Room k A → Env0 P w K mg base A outer s H →
    BindsTo s fd args (ps.zip us) → Vals vs us → sp vs H Q E → codeAny (model P w) A (.call (.ref f) args) (CR CX outer P w H s Q E) s

section
variable {P : Program} {w : World} {K : PySem.W.Frag} {mg : Str → Option Value} {base : Heap} {CX : CXT} {k : Nat} {f : Addr} {fd : FuncData} {ps : List Str} {sp : Sp}
theorem FnG.of (F : FnOk P w K mg base CX k f fd ps sp) : FnG P w K mg base CX k f fd ps sp :=
  ⟨F.len, fun A outer s H args us vs Q E _ hr e0 hb r h => F.run A outer s H args us vs Q E hr e0 hb r h⟩
theorem FnG.mono {j : Nat} (F : FnG P w K mg base CX j f fd ps sp) (h : j ≤ k) : FnG P w K mg base CX k f fd ps sp :=
  ⟨F.len, fun A outer s H args us vs Q E g hr e0 hb r q => F.go A outer s H args us vs Q E g (hr.mono h) e0 hb r q⟩
end

theorem endG {P : Program} {w : World} {outer : List Env} {s : Shared} {H : Hp} {Q : VK} {X : Cx} {σ : L2.St} {H' : Hp} {s' : Shared} {v : V} {u : Value} (J : Inv X [] σ H' s') (rv : RelV v u) (q : Q v H')
    (eP : X.prog = P) (ew : X.w = w) (eo : X.outer = outer) (es : X.s_0 = s) (ex : X.ex = []) (eH : X.H_0 = H) : CE outer P w H s Q u s' := by
  subst eP; subst ew; subst eo; subst es; subst eH
  have b := J.base
  rw [ex] at b
  exact ⟨v, H', J.os, J.bare, b, J.hok, rv, q⟩

/-- a def of the text keeps its promise by its body, nothing being shown -/
theorem fnG {P : Program} {w : World} {K : PySem.W.Frag} {mg : Str → Option Value} {base : Heap} {x qual : Str} {st : Stmt} {f : Addr} {fd : FuncData} {N ps : List Str} {k : Nat} {sp : Sp}
    (F : Fun K x qual st f fd) (S : FnScope N ps (defScope st)) (len : ∀ vs H Q E, sp vs H Q E → vs.length = ps.length)
    (body : ∀ (cdv : Value) (A : Around) (outer : List Env) (s : Shared) (H : Hp) (vs : List V) (Q : VK) (E : XK), A.guards = some [] → Room k (A.deeper (envOfC qual (defScope st) s.heap.objs.size f cdv)) → sp vs H Q E →
      ∃ t, PSs (cxOf CX0 P w K mg base N qual (defScope st) f cdv A outer s H E).nox (defBody st) t ∧ t { nx := fun _ H' => Q .non H', rt := Q } (start N vs) H) : FnG P w K mg base CX0 (k + 1) f fd ps sp := by
  obtain ⟨oc, od, kV, doc, pm, an, cdv, ct, osl, rfl, lk, hcd⟩ := F.ex
  refine ⟨len, ?_⟩
  intro A outer s H args us vs Q E hg room env0 hbind rv asked
  have many : vs.length = ps.length := len vs H Q E asked
  have inK : K.In s.heap := env0.mod.kin.keeps fun c o h => (env0.bs c o h).1
  have noL : s.heap.NoLimit := env0.mod.nolimit.keeps fun c o h => (env0.bs c o h).1
  have kinds : ∀ y ∈ ps.zip us, (defScope st).names.lookup y.1 = some .local ∨ ((defScope st).names.lookup y.1 = some .cell ∧ ((cellsFrom (s.heap.objs.size + 1) (defScope st).names []).lookup y.1).isSome = true) := by
    rintro ⟨n, v⟩ hy
    cases S.par n (List.of_mem_zip hy).1 with
    | inl q => exact Or.inl q
    | inr q => exact Or.inr ⟨q, PySem.W.cellsFrom_some _ _ _ (Or.inl q)⟩
  refine codeAny_call_function room.depth (inK _ _ lk) rfl S.co S.gen rfl (PySem.W.codeRec_of inK hcd) (hbind _ _ _ _ ?_)
  refine wpAny_newFunctionEnv_cells S.kind kinds fun env he s1 inC => ?_
  cases he
  refine ⟨noL.keeps inC.toInCall.keep, codeAny_func ?_⟩
  obtain ⟨t, tree, read⟩ := body cdv A outer s H vs Q E hg (room.deeper _) asked
  have I0 : Inv (cxOf CX0 P w K mg base N qual (defScope st) f cdv A outer s H E) [] (start N vs) H s1 := inv_start S room.hd env0 many rv inC
  refine wpAny_mono (tree.nox.run [] s1 (start N vs) H _ I0 read) (fun fl s' hs => ?_) (fun e s' hs => hs)
  cases fl with
  | next =>
    obtain ⟨τ, G, J, q⟩ := hs
    exact endG (v := V.non) (u := Value.none) J rfl q rfl rfl rfl rfl rfl rfl
  | ret u =>
    obtain ⟨v, τ, G, J, r, q⟩ := hs
    exact endG J r q rfl rfl rfl rfl rfl rfl
  | brk =>
    obtain ⟨_, _, _, q⟩ := hs
    exact q.elim
  | cont =>
    obtain ⟨_, _, _, q⟩ := hs
    exact q.elim

section
variable {X : Cx} {CX : CXT} {k : Nat} {f : Addr} {fd : FuncData} {ps : List Str} {sp : Sp} {dvs : List V} {ds : List Value} {E : XK} {x : Str} {p pos : Pos} {e : Expr} {es : List Expr} {t : TA}
theorem runG {pins : List (Addr × Obj)} {σ : L2.St} {H : Hp} {s : Shared} {Q : VK} {us : List Value} {vs : List V} (F : FnG X.prog X.w X.K X.mg X.base CX k f fd ps sp) (hg : X.A.guards = some []) (hr : Room k X.A) (hb : Binds X.K fd ps ds) (hd : Vals dvs ds) (hx : Passes CX X E)
    (I : Inv X pins σ H s) (r : Vals vs us) (h : sp (vs ++ dvs) H Q E) : wpAny (model X.prog X.w) X.A (call (.ref f) us) (EP X pins σ Q) X.xe s := by
  have rr : Vals (vs ++ dvs) (us ++ ds) := r.append hd
  have hl : (us ++ ds).length = ps.length := rr.length.symm.trans (F.len _ _ _ _ h)
  refine wpAny_call (codeAny_mono (F.go X.A X.stack s H ⟨us, []⟩ (us ++ ds) (vs ++ dvs) Q E hg hr I.env0 (hb s us I.kIn hl) rr h) (fun res s' hq => ?_))
  cases res with
  | error e => exact hx pins σ H s e s' I hq
  | ok fl =>
    cases fl with
    | ret u => exact I.after hq
    | next => exact hq.elim
    | brk => exact hq.elim
    | cont => exact hq.elim
/-- f(e, ..), f such a def -/
theorem pe_callG (F : FnG X.prog X.w X.K X.mg X.base CX k f fd ps sp) (g : X.A.guards = some []) (hr : Room k X.A) (hg : Gl X x) (hm : X.mg x = some (.ref f)) (hk : PySem.W.keepIn X.K (.ref f) = true) (hb : Binds X.K fd ps ds) (hd : Vals dvs ds) (hx : Passes CX X E)
    (ha : PA X (e :: es) t) (hdb : (x == ("__debug__" : Str)) = false := by decide) (he : starEach (e :: es) X.env = (false, eval e X.env) :: starEach es X.env := by rfl) (hpl : (backTo pos (starEach es X.env)).any (·.1) = false := by rfl) :
    PE X (.Call (.Name x p) (e :: es) [] pos) (tCall sp dvs E t) := by
  constructor
  intro pins s σ H Q I h
  apply wpAny_Call_Name_kw
  refine ld_glob I hg hm ?_ hdb
  refine PySem.W.callWith_K (h₀ := X.base) I.ok.mod.kin hk ?_ he hpl
  refine thn (ha.run pos pins s σ H _ I h) ?_
  rintro us s1 ⟨vs, H1, I1, r, q⟩
  exact ⟨I1.kIn, runG F g hr hb hd hx I1 r q⟩
end

/-! ### repr of data -/
section
variable {X : Cx}
/-- what may be shown: d is what v holds, without dicts -/
def rRepr (K : PySem.W.Frag) : List V → Hp → VK → Prop := fun xs H Q => ∃ (a : Addr) (d : PyData), xs = [.ref a] ∧ Dp K H (.ref a) d ∧ d.showable = true ∧ d.hasDict = false ∧ d.depth ≤ 40 ∧ d.shown.length ≤ sizeLine ∧ Q (.str d.shown) H
theorem call_repr (g : X.A.guards = some []) (hu : X.A.units + 64 < cLine) : CallR X (.builtin "repr") (rRepr X.K) := by
  intro pins s σ H xs us Q I r h
  obtain ⟨a, d, rfl, hd, sh, nd, dep, sz, q⟩ := h
  obtain ⟨u, rfl, ru⟩ : ∃ u, us = [u] ∧ RelV (.ref a) u := by
    cases r with
    | cons r1 r2 =>
      cases r2
      exact ⟨_, rfl, r1⟩
  obtain ⟨as, rd⟩ := Dp.reads I d _ u hd ru
  obtain rfl : u = Value.ref a := ru
  refine repr_of_reads' rd sh (fun z => by rw [nd] at z; cases z) g (by omega) (fun _ _ e => e) (fun h' u tk k => ?_) sz
  exact ⟨.str d.shown, H, I.kept k, ⟨_, rfl⟩, q⟩
end
end EvG

/-! ### the law's call where nothing is shown -/
namespace EvG
open PySem PySem.Spec PyProof.Rows L2
/-- the module's facts stay where only the script is put aside -/
theorem hidden_mod {s₁ : Shared} {K : PySem.W.Frag} {mg mb : Str → Option Value} {H : Hp} (KX : K.In s₁.heap) (hns : s₁.heap.Ns mainGlobals mg) (hb : s₁.heap.Ns builtinsNs mb) (hbb : ∀ x : Str, x ≠ "__name__" → mb x = bootBuiltins x) (hlim : s₁.heap.NoLimit)
    (free : ∀ b o, s₁.heap.get? b = some o → (∃ es ep, o.data = Data.dict es ep) → H b = none) (freeK : ∀ b o, K.lookup b = some o → H b = none) : Mod K mg (hidT s₁.heap H) := by
  have ns : ∀ (b : Addr) (m : Str → Option Value), s₁.heap.Ns b m → (hidT s₁.heap H).Ns b m := by
    rintro b m ⟨o, es, ep, e, d, r⟩
    exact ⟨o, es, ep, hidT_get e (free b o e ⟨es, ep, d⟩), d, r⟩
  refine ⟨?_, ns _ _ hns, ⟨mb, ns _ _ hb, hbb⟩, ?_⟩
  · intro b o e
    exact hidT_get (KX b o e) (freeK b o e)
  · obtain ⟨mc, h1, h2⟩ := hlim
    exact ⟨mc, ns _ _ h1, h2⟩

theorem callG {P : Program} {w : World} {K : PySem.W.Frag} {mg mb : Str → Option Value} {k : Nat} {fa a : Addr} {fd : FuncData} {x : Str} {sp : Sp} {s₁ : Shared} {vs : List Value} {ns : List Int}
    (KX : K.In s₁.heap) (hns : s₁.heap.Ns mainGlobals mg) (hb : s₁.heap.Ns builtinsNs mb) (hbb : ∀ x : Str, x ≠ "__name__" → mb x = bootBuiltins x) (hlim : s₁.heap.NoLimit) (hg : s₁.gens = #[])
    (ha : s₁.heap.get? a = some { cls := .type "list", data := .seq vs.toArray }) (hi : IntsAre vs ns) (hl : ns.length ≤ sizeLine) (hr : Room k callerA)
    (F : ∀ base : Heap, K.In base → base.Ns mainGlobals mg → FnG P w K mg base CX0 k fa fd [x] sp) (hbind : ∀ (s : Shared) (u : Value), BindsTo s fd ⟨[u], []⟩ [(x, u)])
    (hsp : ∀ H : Hp, Only H → SqL K H a (ns.map V.int) → sp [.ref a] H (fun v _ => v = .bl true) fun _ _ _ => False) :
    codeAny (model P w) callerA (.call (.ref fa) ⟨[.ref a], []⟩) (fun r s' => r = .ok (.ret (.bool true)) ∧ OldK s₁.heap s'.heap ∧ s'.os = s₁.os ∧ AllBare s'.gens) s₁ := by
  have rv := vals_ints hi
  have sizes := hi.length
  have main : ∀ H : Hp, Only H → SqL K H a (ns.map V.int) → HOk P w H s₁.heap → (∀ b o, s₁.heap.get? b = some o → (∃ es ep, o.data = Data.dict es ep) → H b = none) → (∀ b o, K.lookup b = some o → H b = none) →
      codeAny (model P w) callerA (.call (.ref fa) ⟨[.ref a], []⟩) (fun r s' => r = .ok (.ret (.bool true)) ∧ OldK s₁.heap s'.heap ∧ s'.os = s₁.os ∧ AllBare s'.gens) s₁ := by
    intro H only seq ok fr fk
    have M := hidden_mod (H := H) KX hns hb hbb hlim fr fk
    have e0 : Env0 P w K mg (hidT s₁.heap H) callerA [] s₁ H := by
      refine ⟨rfl, M, fun b o e => of_hidT e, Nat.le_of_eq (hidT_size _ _), trivial, fun b z => ?_, ok, .of_eq hg⟩
      have z' : b ∈ ([] : List Addr) := z
      cases z'
    refine codeAny_mono ((F _ M.kin M.glob).go callerA [] s₁ H ⟨[.ref a], []⟩ [.ref a] [.ref a] _ _ rfl hr e0 (hbind s₁ (.ref a)) (.cons rfl .nil) (hsp H only seq)) ?_
    intro res s' q
    cases res with
    | error e => exact q.elim
    | ok fl =>
      cases fl with
      | next => exact q.elim
      | brk => exact q.elim
      | cont => exact q.elim
      | ret u =>
        obtain ⟨v, H', os, bare, un, ok', r', hv⟩ := q
        obtain rfl : v = .bl true := hv
        obtain rfl : u = Value.bool true := r'
        refine ⟨rfl, OldK.of_keep ?_, os, bare⟩
        intro b o e
        have nin : b ∉ frs ([] : List Env) := fun z => by
          have z' : b ∈ ([] : List Addr) := z
          cases z'
        rcases only b with z | ⟨ob, xs, z⟩
        · exact un.keep b o e z nin (by simp)
        · have e1 := (ok b _ z).1
          have e2 := (ok' b _ (un.frzs b ob _ z)).1
          rw [e] at e1
          cases e1
          exact e2
  by_cases hk : ∃ o, K.lookup a = some o
  · obtain ⟨o, ho⟩ := hk
    have e := KX a o ho
    rw [ha] at e
    cases e
    refine main (fun _ => none) (fun _ => .inl rfl) (.inr ⟨_, vs.toArray, _, ho, rfl, rfl, rfl, ?_, ?_⟩) (fun b u z => ?_) (fun _ _ _ _ => rfl) (fun _ _ _ => rfl)
    · rw [List.size_toArray, sizes]
      exact hl
    · simpa using rv
    · have z' : (none : Option HO) = some u := z
      cases z'
  · have hn : K.lookup a = none := by
      cases q : K.lookup a with
      | none => rfl
      | some o => exact absurd ⟨o, q⟩ hk
    let G : Hp := fun b => if b = a then some (.frz { cls := .type "list", data := .seq vs.toArray } (.lst (ns.map V.int))) else none
    have Ga : G a = some (.frz { cls := .type "list", data := .seq vs.toArray } (.lst (ns.map V.int))) := if_pos rfl
    have Gn : ∀ b, b ≠ a → G b = none := fun b h => if_neg h
    refine main G (fun b => ?_) (.inl (.inr ⟨_, Ga⟩)) (fun b u z => ?_) (fun b o e d => ?_) (fun b o e => ?_)
    · by_cases h : b = a
      · subst h
        exact .inr ⟨_, _, Ga⟩
      · exact .inl (Gn b h)
    · by_cases h : b = a
      · subst h
        rw [Ga] at z
        cases z
        refine ⟨ha, ?_, vs, _, rv, ha⟩
        rw [List.length_map]
        exact hl
      · rw [Gn b h] at z
        cases z
    · refine Gn b fun h => ?_
      subst h
      rw [ha] at e
      cases e
      obtain ⟨es, ep, d⟩ := d
      cases d
    · refine Gn b fun h => ?_
      subst h
      rw [hn] at e
      cases e

/-- the end of a law whose def may show data -/
theorem walkG {l : PySem.W.OpenLaw} {n k : Nat} {q : Program} {loose : List Str} {XP : (Str → Option Value) → Heap → Prop} {YP : World → Heap → Prop} {d : DefRec} {K : Params → PySem.W.Frag} {sp : PySem.W.Frag → Sp} {x : Str}
    (hn : l.most = some n) (hn2 : n ≤ sizeLine) (hdf : d.params.defaults = []) (hr : Room k callerA) (hY : ∀ (w : World) (h : Heap), YP w h → (K w.params).In h)
    (F : ∀ (w : World) (mg : Str → Option Value) (fa : Addr) (h : Heap), (K w.params).In h → h.Ns mainGlobals mg → mg d.name = some (.ref fa) →
      ∃ fd : FuncData, (∀ (s : Shared) (u : Value), BindsTo s fd ⟨[u], []⟩ [(x, u)]) ∧ ∀ base : Heap, (K w.params).In base → base.Ns mainGlobals mg → FnG l.prog w (K w.params) mg base CX0 k fa fd [x] (sp (K w.params)))
    (hsp : ∀ (K : PySem.W.Frag) (H : Hp) (a : Addr) (ns : List Int), ns.length ≤ n → Only H → SqL K H a (ns.map V.int) → sp K [.ref a] H (fun v _ => v = .bl true) fun _ _ _ => False) :
    PySem.W.WalkO q loose XP YP l.row.toRowW d [] (fun f vs => PySem.call f vs) := by
  refine Att.attach_call hn hdf ?_
  intro w s₀ s₁ mg mb fa o pm cd doc a vs ns G Y ho hd hcd hmg hobj hints hlen hg
  have KX := hY w _ Y
  obtain ⟨fd, hb, hF⟩ := F w mg fa _ KX G.T.g hmg
  exact callG KX G.T.g G.T.b G.T.builtins G.T.nolimit hg hobj hints (Nat.le_trans hlen hn2) hr hF hb fun H only seq => hsp _ H a ns hlen only seq
end EvG

/-! Readings, one step a lemma; the steps are found by the head of the goal. -/
namespace EvG
open PySem PySem.Spec PyProof.Rows L2
section
variable {σ : L2.St} {H : Hp} {Q : VK} {QB : Bool → Hp → Prop} {QA : List V → Hp → Prop} {QO : Option Int → Hp → Prop} {QS : L2.St → Hp → Prop} {i : Nat} {v x y : V} {ta tb tc te : TE} {t u : TT} {tr tk : TA} {tl th : TO} {r : R2} {D : Ends} {t1 t2 ts : TS} {g : TG}
theorem g_var (h : σ[i]? = some (some v)) (q : Q v H) : tVar i σ H Q := ⟨v, h, q⟩
theorem g_c (q : Q v H) : tC v σ H Q := q
theorem g_op (h : ta σ H fun x H1 => tb σ H1 fun y H2 => r x y H2 Q) : tOp r ta tb σ H Q := h
theorem g_un {r : V → Hp → VK → Prop} (h : ta σ H fun x H1 => r x H1 Q) : tUn r ta σ H Q := h
theorem g_neg {i : Int} (h : Q (.int (-i)) H) : rU (fun i => .int (-i)) (.int i) H Q := ⟨i, rfl, h⟩
theorem g_I0 {f : Int → Int → V} {i j : Int} (q : Q (f i j) H) : rI0 f (.int i) (.int j) H Q := ⟨i, j, rfl, rfl, q⟩
theorem g_I {C : Int → Int → Prop} {f : Int → Int → V} {i j : Int} (c : C i j) (q : Q (f i j) H) : rI C f (.int i) (.int j) H Q := ⟨i, j, rfl, rfl, c, q⟩
theorem g_eq (h : scal x y = true) (q : Q (.bl (decide (x = y))) H) : rEq x y H Q := ⟨h, q⟩
theorem g_ne (h : scal x y = true) (q : Q (.bl (!decide (x = y))) H) : rNe x y H Q := ⟨h, q⟩
theorem g_test {te : TE} (h : te σ H fun x H' => ∃ k, x = .bl k ∧ QB k H') : tTest te σ H QB := h
theorem g_B {te : TE} (h : te σ H fun x H' => ∃ k, x = .bl k ∧ QB k H') : tB te σ H QB := h
theorem g_bl {k : Bool} {W : Bool → Prop} (q : W k) : ∃ k', V.bl k = .bl k' ∧ W k' := ⟨k, rfl, q⟩
theorem g_and (h : t σ H fun c H1 => if c = true then u σ H1 QB else QB false H1) : tAnd t u σ H QB := h
theorem g_or (h : t σ H fun c H1 => if c = true then QB true H1 else u σ H1 QB) : tOr t u σ H QB := h
theorem g_not (h : t σ H fun c H1 => QB (!c) H1) : tNot t σ H QB := h
theorem g_andV (h : ta σ H fun x H1 => ∃ c, x = .bl c ∧ if c = true then tb σ H1 Q else Q (.bl false) H1) : tAndV ta tb σ H Q := h
theorem g_orV (h : ta σ H fun x H1 => ∃ c, x = .bl c ∧ if c = true then Q (.bl true) H1 else tb σ H1 Q) : tOrV ta tb σ H Q := h
theorem g_notV (h : ta σ H fun x H1 => ∃ c, x = .bl c ∧ Q (.bl (!c)) H1) : tNotV ta σ H Q := h
theorem g_ifx (h : t σ H fun c H1 => if c = true then ta σ H1 Q else tb σ H1 Q) : tIf t ta tb σ H Q := h
theorem g_cons (h : te σ H fun x H1 => tr σ H1 fun xs H2 => QA (x :: xs) H2) : tCons te tr σ H QA := h
theorem g_nil (q : QA [] H) : tNil σ H QA := q
theorem g_cb {r : List V → Hp → VK → Prop} (h : tr σ H fun vs H1 => r vs H1 Q) : tCB r tr σ H Q := h
theorem g_call {sp : Sp} {dvs : List V} {E : XK} (h : tr σ H fun vs H1 => sp (vs ++ dvs) H1 Q E) : tCall sp dvs E tr σ H Q := h
theorem g_callK {sp : Sp} {gV : List V → List V → List V} {E : XK} (h : tr σ H fun vs H1 => tk σ H1 fun zs H2 => sp (gV vs zs) H2 Q E) : L2.tCallK sp gV E tr tk σ H Q := h
theorem g_tup (h : tr σ H fun xs H1 => xs.length ≤ sizeLine ∧ ∀ p, H1 p = none → Q (.ref p) (upd H1 p (.tup xs))) : tTup tr σ H Q := h
theorem g_lst (h : tr σ H fun xs H1 => xs.length ≤ sizeLine ∧ ∀ p, H1 p = none → Q (.ref p) (upd H1 p (.lst xs))) : tLst tr σ H Q := h
theorem g_sl {r : V → Option Int → Option Int → Hp → VK → Prop} (h : te σ H fun x H1 => tl σ H1 fun l H2 => th σ H2 fun u H3 => r x l u H3 Q) : tSl r te tl th σ H Q := h
theorem g_part (h : te σ H fun x H1 => ∃ i, x = .int i ∧ QO (some i) H1) : tPart te σ H QO := h
theorem g_nopart (q : QO none H) : tNoPart σ H QO := q
theorem g_seq (h : t1 { D with nx := t2 D } σ H) : tSeq t1 t2 D σ H := h
theorem g_next (q : D.nx σ H) : tNext D σ H := q
theorem g_asg (h : te σ H fun x H1 => g x σ H1 D.nx) : tAsg te g D σ H := h
theorem g_name (q : QS (σ.set i (some v)) H) : gName i v σ H QS := q
theorem g_sub {to ti : TE} {t : TSet} (h : to σ H fun o H1 => ti σ H1 fun i H2 => t o i v H2 fun H3 => QS σ H3) : gSub to ti t v σ H QS := h
theorem g_ret (h : te σ H D.rt) : tRet te D σ H := h
theorem g_retN (h : D.rt .non H) : tRetN D σ H := h
theorem g_drop (h : te σ H fun _ H1 => D.nx σ H1) : tDrop te D σ H := h
theorem g_ifs {c : TT} (h : c σ H fun b H1 => if b = true then t1 D σ H1 else t2 D σ H1) : tIfS c t1 t2 D σ H := h
theorem g_yes (q : QB true H) : tYes σ H QB := q
theorem g_m0 {r : V → List V → Hp → VK → Prop} {K : PySem.W.Frag} {T : String} (h : te σ H fun x H1 => tyV K T x H1 ∧ r x [] H1 Q) : tBM0 K T r te σ H Q := h
/-- items of lists and tuples that stand -/
theorem g_ixL {K : PySem.W.Frag} {p : Addr} {xs : List V} {i : Int} (h : SqL K H p xs) (ha : atI xs i = some v) (q : Q v H) : rIxL K (.ref p) (.int i) H Q := ⟨p, xs, i, v, rfl, rfl, h, ha, q⟩
theorem g_ixT {K : PySem.W.Frag} {p : Addr} {xs : List V} {i : Int} (h : SqT K H p xs) (ha : atI xs i = some v) (q : Q v H) : rIxT K (.ref p) (.int i) H Q := ⟨p, xs, i, v, rfl, rfl, h, ha, q⟩
theorem g_ixS {z : Str} {i : Int} {c : Nat} (h : z.length ≤ sizeLine) (ha : atI z.cps.toList i = some c) (q : Q (.str ⟨#[c]⟩) H) : rIxS (.str z) (.int i) H Q := ⟨z, i, c, rfl, rfl, h, ha, q⟩
theorem g_setL {p : Addr} {xs : List V} {k : Int} {j : Nat} {QH : Hp → Prop} (h : H p = some (.lst xs)) (hj : ixN xs.length k = some j) (q : QH (upd H p (.lst (xs.set j v)))) : rSetL (.ref p) (.int k) v H QH := ⟨p, xs, k, j, rfl, rfl, h, hj, q⟩
theorem g_true {A B : Prop} {b : Bool} (h : b = true) (q : A) : if b = true then A else B := by
  rw [if_pos h]
  exact q
theorem g_false {A B : Prop} {b : Bool} (h : b = false) (q : B) : if b = true then A else B := by
  rw [if_neg (by rw [h]; exact Bool.false_ne_true)]
  exact q
theorem g_rng1 {ta : TA} {R : It → Hp → Prop} (h : ta σ H fun vs H1 => ∃ j : Int, vs = [.int j] ∧ -(2 ^ 62) ≤ j ∧ j < 2 ^ 62 ∧ R (Itr 0 j.toNat) H1) : iRng1 ta σ H R := h
end
/-- the heap's lookups -/
theorem look_same {H : Hp} {a b : Addr} {o u : HO} (h : a = b) (e : o = u) : upd H b o a = some u := by
  subst h
  subst e
  exact upd_same
theorem look_past {H : Hp} {a b : Addr} {o u : HO} (n : a ≠ b) (h : H a = some u) : upd H b o a = some u := by
  rw [upd_ne n]
  exact h
theorem gone_past {H : Hp} {a b : Addr} {o : HO} (h : upd H b o a = none) : a ≠ b ∧ H a = none := by
  by_cases e : a = b
  · subst e
    rw [upd_same] at h
    cases h
  · rw [upd_ne e] at h
    exact ⟨e, h⟩

/-! ### calls of built-in names, by their values -/
section
variable {X : Cx} {H : Hp} {Q : VK} {i : Int} {K : PySem.W.Frag}
def rIntI : List V → Hp → VK → Prop := fun xs H Q => ∃ i, xs = [.int i] ∧ Q (.int i) H
def rIntB : List V → Hp → VK → Prop := fun xs H Q => ∃ k, xs = [.bl k] ∧ Q (.int (if k then 1 else 0)) H
def rAbs : List V → Hp → VK → Prop := fun xs H Q => ∃ i, xs = [.int i] ∧ Q (.int (if i < 0 then -i else i)) H
def rLenL (K : PySem.W.Frag) : List V → Hp → VK → Prop := fun xs H Q => ∃ p ys, xs = [.ref p] ∧ (SqL K H p ys ∨ SqT K H p ys) ∧ Q (.int ys.length) H
def rLenS : List V → Hp → VK → Prop := fun xs H Q => ∃ z, xs = [.str z] ∧ z.length ≤ sizeLine ∧ Q (.int z.length) H
def rListL (K : PySem.W.Frag) : List V → Hp → VK → Prop := fun xs H Q => ∃ p ys, xs = [.ref p] ∧ (SqL K H p ys ∨ SqT K H p ys) ∧ ∀ l, H l = none → Q (.ref l) (upd H l (.lst ys))
def rStrI : List V → Hp → VK → Prop := fun xs H Q => ∃ i, xs = [.int i] ∧ i.natAbs.log2 < 1920 ∧ Q (.str (toString i)) H
theorem call_intI : CallR X (.type "int") rIntI := fun pins s σ H xs us Q I r h => call_int1 pins s σ H xs us Q I r (.inl h)
theorem call_intB : CallR X (.type "int") rIntB := fun pins s σ H xs us Q I r h => call_int1 pins s σ H xs us Q I r (.inr h)
theorem call_absI : CallR X (.builtin "abs") rAbs := call_abs
theorem call_lenL : CallR X (.builtin "len") (rLenL X.K) := call_len_seq
theorem call_lenS : CallR X (.builtin "len") rLenS := call_len_str
theorem call_listL : CallR X (.type "list") (rListL X.K) := call_list_of
theorem call_strI : CallR X (.type "str") rStrI := call_str_int
theorem g_intI (q : Q (.int i) H) : rIntI [.int i] H Q := ⟨i, rfl, q⟩
theorem g_intB {k : Bool} (q : Q (.int (if k then 1 else 0)) H) : rIntB [.bl k] H Q := ⟨k, rfl, q⟩
theorem g_abs (q : Q (.int (if i < 0 then -i else i)) H) : rAbs [.int i] H Q := ⟨i, rfl, q⟩
theorem g_lenL {p : Addr} {ys : List V} (h : SqL K H p ys) (q : Q (.int ys.length) H) : rLenL K [.ref p] H Q := ⟨p, ys, rfl, .inl h, q⟩
theorem g_lenT {p : Addr} {ys : List V} (h : SqT K H p ys) (q : Q (.int ys.length) H) : rLenL K [.ref p] H Q := ⟨p, ys, rfl, .inr h, q⟩
theorem g_lenS {z : Str} (h : z.length ≤ sizeLine) (q : Q (.int z.length) H) : rLenS [.str z] H Q := ⟨z, rfl, h, q⟩
theorem g_listL {p : Addr} {ys : List V} (h : SqL K H p ys) (q : ∀ l, H l = none → Q (.ref l) (upd H l (.lst ys))) : rListL K [.ref p] H Q := ⟨p, ys, rfl, .inl h, q⟩
theorem g_strI (h : i.natAbs.log2 < 1920) (q : Q (.str (toString i)) H) : rStrI [.int i] H Q := ⟨i, rfl, h, q⟩
theorem g_eqD {x y : V} {d e : PyData} (hd : Dp K H x d) (he : Dp K H y e) (sd : SeqAt.shaped d = true) (se : SeqAt.shaped e = true) (q : Q (.bl (PyData.eqv d e)) H) : rEqD K x y H Q := ⟨d, e, hd, he, sd, se, q⟩
theorem g_neD {x y : V} {d e : PyData} (hd : Dp K H x d) (he : Dp K H y e) (sd : SeqAt.shaped d = true) (se : SeqAt.shaped e = true) (q : Q (.bl (!PyData.eqv d e)) H) : rNeD K x y H Q := ⟨d, e, hd, he, sd, se, q⟩
theorem g_slL {p : Addr} {xs : List V} {lo hi : Option Int} (h : SqL K H p xs) (q : ∀ r, H r = none → Q (.ref r) (upd H r (.lst (cutV xs lo hi)))) : rSlL K (.ref p) lo hi H Q := ⟨p, xs, rfl, h, q⟩
theorem g_slS {z : Str} {lo hi : Option Int} (h : z.length ≤ sizeLine) (q : Q (.str (cutS z lo hi)) H) : rSlS (.str z) lo hi H Q := ⟨z, rfl, h, q⟩
theorem g_rep {l : Addr} {k : Int} {xs : List V} (h : H l = some (.lst xs)) (k0 : -(2 ^ 63) ≤ k) (k1 : k < 2 ^ 63) (z : xs.length * k.toNat ≤ sizeLine) (q : ∀ p, H p = none → Q (.ref p) (upd H p (.lst (List.replicate k.toNat xs).flatten))) : rRep (.ref l) (.int k) H Q :=
  ⟨l, k, xs, rfl, rfl, h, k0, k1, z, q⟩
theorem g_cat {l b : Addr} {xs zs : List V} (h : H l = some (.lst xs)) (h2 : H b = some (.lst zs)) (z : xs.length + zs.length ≤ sizeLine) (q : ∀ p, H p = none → Q (.ref p) (upd H p (.lst (xs ++ zs)))) : rCat (.ref l) (.ref b) H Q :=
  ⟨l, b, xs, zs, rfl, rfl, h, h2, z, q⟩
theorem g_part1 {W : Int → Prop} {i : Int} (q : W i) : ∃ j, V.int i = .int j ∧ W j := ⟨i, rfl, q⟩
theorem g_rng {W : Int → Prop} {i : Int} (h0 : -(2 ^ 62) ≤ i) (h1 : i < 2 ^ 62) (q : W i) : ∃ j : Int, [V.int i] = [.int j] ∧ -(2 ^ 62) ≤ j ∧ j < 2 ^ 62 ∧ W j := ⟨i, rfl, h0, h1, q⟩
end
/-! ### int lists as data -/
theorem dp_ints {K : PySem.W.Frag} {H : Hp} : ∀ ns : List Int, DpAll K H (ns.map V.int) (ns.map PyData.int)
  | [] => .nil
  | n :: r => .cons (.int n) (dp_ints r)
theorem canInts : ∀ ns : List Int, PyData.canLayAll0 (ns.map PyData.int) = true
  | [] => by simp [PyData.canLayAll0]
  | n :: r => by
    show PyData.canLayAll0 (PyData.int n :: r.map PyData.int) = true
    simp only [PyData.canLayAll0, PyData.canLay0, canInts r, Bool.and_self]
theorem depthInts : ∀ ns : List Int, PyData.depthAll (ns.map PyData.int) ≤ 1
  | [] => by simp [PyData.depthAll]
  | n :: r => by
    show PyData.depthAll (PyData.int n :: r.map PyData.int) ≤ 1
    have ih := depthInts r
    simp only [PyData.depthAll, PyData.depth]
    omega
theorem shapedInts (ns : List Int) : SeqAt.shaped (.list (ns.map PyData.int)) = true := by
  have d := depthInts ns
  have h1 : PyData.canLay0 (.list (ns.map PyData.int)) = true := by
    simp only [PyData.canLay0]
    exact canInts ns
  have h2 : PyData.depth (.list (ns.map PyData.int)) ≤ 64 := by
    simp only [PyData.depth]
    omega
  unfold SeqAt.shaped
  rw [h1, Bool.true_and]
  exact decide_eq_true h2
theorem eqvInts0 (ns : List Int) : PyData.eqv (.list (ns.map PyData.int)) (.list []) = decide (ns = []) := by
  cases ns with
  | nil => simp [PyData.eqv, PyData.eqvAll]
  | cons a r => simp [PyData.eqv, PyData.eqvAll]

/-- the rest by what holds ahead of it -/
theorem g_cut {t u : TS} {D : Ends} {σ : L2.St} {H : Hp} (W : L2.St → Hp → Prop) (hu : ∀ σ' H', W σ' H' → u D σ' H') (ht : ∀ R : L2.St → Hp → Prop, (∀ σ' H', W σ' H' → R σ' H') → t { D with nx := R } σ H) : tSeq t u D σ H := ht (u D) hu
theorem g_new {n : Nat} {W : Prop} (h : n ≤ sizeLine) (w : W) : n ≤ sizeLine ∧ W := ⟨h, w⟩
theorem g_rt {nx bk ct : L2.St → Hp → Prop} {rt : VK} {v : V} {H : Hp} (h : rt v H) : Ends.rt { nx := nx, rt := rt, bk := bk, ct := ct } v H := h
theorem g_nx {nx bk ct : L2.St → Hp → Prop} {rt : VK} {σ : L2.St} {H : Hp} (h : nx σ H) : Ends.nx { nx := nx, rt := rt, bk := bk, ct := ct } σ H := h
theorem small_of {n : Nat} (h : n ≤ 1000000) : n ≤ sizeLine := Nat.le_trans h (by decide)

/-- a rest by a written number, its value forgotten -/
theorem g_modC {i j : Int} {H : Hp} {Q : VK} (hj : 0 < j) (q : ∀ x : Int, 0 ≤ x → x < j → Q (.int x) H) : rI (fun _ j => 0 < j) (fun i j => .int (i % j)) (.int i) (.int j) H Q :=
  ⟨i, j, rfl, rfl, hj, q _ (Int.emod_nonneg i (by omega)) (Int.emod_lt_of_pos i hj)⟩
theorem pow3_ok {x z a c e : Int} (x0 : 0 ≤ x) (x1 : x < 2147483648) (z0 : 0 ≤ z) (z1 : z ≤ 100000) (a0 : 0 ≤ a) (a1 : a ≤ 1000) (c0 : 0 ≤ c) (c1 : c ≤ 1000000) (e0 : 0 ≤ e) (e1 : e ≤ 1000) : CPow (x * (2 * z + a) + c * z * z + e) 3 := by
  have h1 : x * (2 * z + a) ≤ 2147483648 * (2 * z + a) := Int.mul_le_mul_of_nonneg_right (by omega) (by omega)
  have h2 : 0 ≤ x * (2 * z + a) := Int.mul_nonneg x0 (by omega)
  have h3 : c * z ≤ 1000000 * z := Int.mul_le_mul_of_nonneg_right c1 z0
  have h4 : 0 ≤ c * z := Int.mul_nonneg c0 z0
  have h5 : c * z * z ≤ (1000000 * 100000) * z := Int.mul_le_mul_of_nonneg_right (by omega) z0
  have h6 : 0 ≤ c * z * z := Int.mul_nonneg h4 z0
  exact ⟨by decide, by decide, by omega⟩
theorem abs_ge {i n : Int} (h : n ≤ (if i < 0 then -i else i)) (m : Int) (hm : m = if i < 0 then -i else i) : n ≤ m := by
  rw [hm]
  exact h

section
variable {X : Cx} {H : Hp} {Q : VK} {K : PySem.W.Frag} {σ : L2.St}
/-- isinstance by a written class -/
theorem g_isi {x : V} {n c : String} {b : Bool} (ty : TyX K H x (.type n)) (h : kitB n c = some b) (q : Q (.bl b) H) : rIsi K [x, .ty c] H Q := ⟨x, .ty c, .type n, .type c, b, rfl, .ty c, ty, kit_ty h, q⟩
theorem g_notInS {c : Nat} {z : Str} (q : Q (.bl (!decide (c ∈ z.cps.toList))) H) : rNotInS (.str ⟨#[c]⟩) (.str z) H Q := ⟨c, z, rfl, rfl, q⟩
theorem g_inS {c : Nat} {z : Str} (q : Q (.bl (decide (c ∈ z.cps.toList))) H) : rInS (.str ⟨#[c]⟩) (.str z) H Q := ⟨c, z, rfl, rfl, q⟩
def rTxtB (f : Str → Bool) : V → List V → Hp → VK → Prop := fun x xs H Q => ∃ a, x = .str a ∧ xs = [] ∧ True ∧ Q (.bl (f a)) H
theorem mt_isasciiB : MtR X "str.isascii" (rTxtB Txt.isascii) := mt_isascii
theorem mt_islowerB : MtR X "str.islower" (rTxtB Txt.islower) := mt_islower
theorem mt_isalphaB : MtR X "str.isalpha" (rTxtB Txt.isalpha) := mt_isalpha
theorem g_txtB {f : Str → Bool} {a : Str} (q : Q (.bl (f a)) H) : rTxtB f (.str a) [] H Q := ⟨a, rfl, rfl, trivial, q⟩
theorem g_tyS {a : Str} {W : Prop} (w : W) : tyV K "str" (.str a) H ∧ W := ⟨rfl, w⟩
theorem g_chain {r r' : R2} {ta tb tc : TE} (h : ta σ H fun x H1 => tb σ H1 fun y H2 => r x y H2 fun z H3 => ∃ k, z = .bl k ∧ (if k = true then tc σ H3 fun w' H4 => r' y w' H4 Q else Q (.bl false) H3)) : tChain r r' ta tb tc σ H Q := h
theorem op_addS : OpR X (binaryOp .Add) rAddS := op_add_str
theorem g_addS {a b : Str} (h : a.length + b.length ≤ sizeLine) (q : Q (.str (a ++ b)) H) : rAddS (.str a) (.str b) H Q := ⟨a, b, rfl, rfl, h, q⟩
end

section
variable {H : Hp} {Q : VK} {K : PySem.W.Frag} {σ : L2.St}
def rJoin (K : PySem.W.Frag) : V → List V → Hp → VK → Prop := fun x xs H Q => ∃ a p, ∃ ys : List Str, x = .str a ∧ xs = [.ref p] ∧ (SqL K H p (ys.map V.str) ∨ SqT K H p (ys.map V.str)) ∧ (ys.map (·.length)).sum + ys.length * a.length ≤ 16777216 ∧ Q (.str (Txt.join a ys)) H
theorem pe_joinJ {X : Cx} {o e : Expr} {to te : TE} {apos pos : Pos} (ho : PE X o to) (he : PE X e te) (hs : starEach [e] X.env = [(false, eval e X.env)] := by rfl) (hbase : attributeBase o "join" X.env (eval o X.env) = eval o X.env := by rfl) (hline : (apos.endLine == pos.line) = true := by rfl) :
    PE X (.Call (.Attribute o "join" apos) [e] [] pos) (tM1 (rJoin X.K) to te) := pe_join ho he hs hbase hline
theorem g_m1 {r : V → List V → Hp → VK → Prop} {to te : TE} (h : to σ H fun x H1 => (∃ a, x = .str a) ∧ te σ H1 fun y H2 => r x [y] H2 Q) : tM1 r to te σ H Q := h
theorem g_isStr {a : Str} {W : Prop} (w : W) : (∃ b, V.str a = .str b) ∧ W := ⟨⟨a, rfl⟩, w⟩
theorem g_join {a : Str} {p : Addr} {ys : List Str} (h : SqL K H p (ys.map V.str)) (z : (ys.map (·.length)).sum + ys.length * a.length ≤ 16777216) (q : Q (.str (Txt.join a ys)) H) : rJoin K (.str a) [.ref p] H Q := ⟨a, p, ys, rfl, rfl, .inl h, z, q⟩
end
theorem join_signs (l : List Nat) : Txt.join (Str.ofString "") (l.map fun c => (⟨#[c]⟩ : Str)) = ⟨l.toArray⟩ := by
  have e : TL.tl (Txt.join (Str.ofString "") (l.map fun c => (⟨#[c]⟩ : Str))) = l := by
    rw [TL.join_eq, TL.tl_join]
    have z : TL.tl (Str.ofString "") = [] := by decide +kernel
    rw [z, List.map_map]
    have flat : ∀ l : List (List Nat), TL.joinL [] l = l.flatten := by
      intro l
      induction l with
      | nil => rfl
      | cons p r ih =>
        cases r with
        | nil =>
          show p = _
          simp
        | cons q r =>
          show p ++ ([] ++ TL.joinL [] (q :: r)) = _
          rw [List.nil_append, ih]
          rfl
    rw [flat]
    induction l with
    | nil => rfl
    | cons c r ih =>
      rw [List.map_cons, List.flatten_cons, ih]
      rfl
  refine TL.ext_tl ?_
  rw [e]

/-! ### loops and comprehensions: what is left behind the walked thing -/
def FOR (J : It) (g : TG) (tb : TS) (D : Ends) (σ : L2.St) (H1 : Hp) : Prop := ∃ W : Nat → Nat → L2.St → Hp → Prop, (∃ m, W 0 m σ H1) ∧ ∀ i m σ H, W i m σ H →
  (J.stop i H ∧ D.nx σ H) ∨ (J.go i H ∧ ∃ N : L2.St → Hp → Prop, (∀ σ' H', N σ' H' → ∃ m', m' < m ∧ W (i + 1) m' σ' H') ∧ ∀ x H', J.yld i H x H' → g x σ H' fun σ2 H2 => tb { D with nx := N, ct := N, bk := D.nx } σ2 H2)
theorem g_for {wi : TI} {g : TG} {tb : TS} {D : Ends} {σ : L2.St} {H : Hp} (h : wi σ H fun J H1 => FOR J g tb D σ H1) : tFor wi g tb D σ H := h
def LCF (J : It) (g : TG) (tt : TT) (te : TE) (vs : List Nat) (σ : L2.St) (H1 : Hp) (D : Addr) (Q : VK) : Prop := ∃ W : Nat → Nat → Hp → Prop, (∃ m, W 0 m (upd H1 D (.lst []))) ∧ ∀ i m H, W i m H →
  (J.stop i H ∧ Q (.ref D) H) ∨ (J.go i H ∧ ∃ Nx : Hp → Prop, (∀ H', Nx H' → ∃ m', m' < m ∧ W (i + 1) m' H') ∧ ∀ x H', J.yld i H x H' → g x (wipe σ vs) H' fun σ2 H2 => wipe σ2 vs = wipe σ vs ∧ tt σ2 H2 fun b H3 =>
    if b = true then te σ2 H3 fun y H4 => ∃ acc, H4 D = some (.lst acc) ∧ acc.length < sizeLine ∧ Nx (upd H4 D (.lst (acc ++ [y]))) else Nx H3)
theorem g_lc {wi : TI} {g : TG} {tt : TT} {te : TE} {vs : List Nat} {σ : L2.St} {H : Hp} {Q : VK} (h : wi σ H fun J H1 => ∀ D, H1 D = none → LCF J g tt te vs σ H1 D Q) : tLc wi g tt te vs σ H Q := h
theorem g_iL {K : PySem.W.Frag} {tl : TE} {σ : L2.St} {H : Hp} {R : It → Hp → Prop} (h : tl σ H fun x H1 => ∃ a, x = .ref a ∧ (∃ xs, SqL K H1 a xs) ∧ R (Itl K a) H1) : iList K tl σ H R := h
theorem g_iT {K : PySem.W.Frag} {tl : TE} {σ : L2.St} {H : Hp} {R : It → Hp → Prop} (h : tl σ H fun x H1 => ∃ a, x = .ref a ∧ (∃ xs, SqT K H1 a xs) ∧ R (Itt K a) H1) : iTup K tl σ H R := h
theorem g_iS {te : TE} {σ : L2.St} {H : Hp} {R : It → Hp → Prop} (h : te σ H fun v H1 => ∃ x, v = .str x ∧ R (Its x) H1) : iStr te σ H R := h
theorem g_atL {K : PySem.W.Frag} {a : Addr} {xs : List V} {H : Hp} {W : Addr → Prop} (h : SqL K H a xs) (w : W a) : ∃ b, V.ref a = .ref b ∧ (∃ xs, SqL K H b xs) ∧ W b := ⟨a, rfl, ⟨xs, h⟩, w⟩
theorem g_atT {K : PySem.W.Frag} {a : Addr} {xs : List V} {H : Hp} {W : Addr → Prop} (h : SqT K H a xs) (w : W a) : ∃ b, V.ref a = .ref b ∧ (∃ xs, SqT K H b xs) ∧ W b := ⟨a, rfl, ⟨xs, h⟩, w⟩
theorem g_atS {z : Str} {W : Str → Prop} (w : W z) : ∃ x, V.str z = .str x ∧ W x := ⟨z, rfl, w⟩

/-! ### a call by keywords alone -/
section
variable {X : Cx} {CX : CXT} {k : Nat} {f : Addr} {fd : FuncData} {ps ks : List Str} {sp : Sp} {E : XK} {x : Str} {p pos : Pos} {kws : List Keyword} {tk : TA} {g : List Value → List Value → List Value} {gV : List V → List V → List V}
theorem pe_callK0 (F : FnOk X.prog X.w X.K X.mg X.base CX k f fd ps sp) (hr : Room k X.A) (hg : Gl X x) (hm : X.mg x = some (.ref f)) (hk : PySem.W.keepIn X.K (.ref f) = true) (hb : KBinds X.K fd ps ks g gV) (hx : Passes CX X E)
    (hkw : PK X kws tk) (hall : (backToKw pos (keywordEach kws X.env)).all (·.1.isSome) = true := by rfl) (hks : (backToKw pos (keywordEach kws X.env)).filterMap (·.1) = ks := by rfl)
    (hdb : (x == ("__debug__" : Str)) = false := by decide) (hpl : ((backTo pos (starEach [] X.env)).any (·.1) || (backToKw pos (keywordEach kws X.env)).any (·.1.isNone)) = false := by rfl) :
    PE X (.Call (.Name x p) [] kws pos) (L2.tCallK sp gV E tNil tk) := by
  constructor
  intro pins s σ H Q I h
  apply wpAny_Call_Name_kw
  refine ld_glob I hg hm ?_ hdb
  refine PySem.W.callWith_KW0 (h₀ := X.base) I.ok.mod.kin hk hall ?_ hpl
  refine thn (hkw.run pos pins s σ H _ I h) ?_
  rintro ws s2 ⟨zs, H2, I2, rz, q2⟩
  refine ⟨I2.kIn, ?_⟩
  rw [hks]
  exact run_fnk F hr hb hx I2 .nil rz q2
end
/-- one parameter, handed over by its name -/
theorem kb_one {K : PySem.W.Frag} {x qual a : Str} {st : Stmt} {f : Addr} {fd : FuncData} (F : Fun K x qual st f fd)
    (h0 : ∀ (kV doc pm : Value) (an : Option Addr) (cdv ct u : Value), bindArgs (PySem.W.fnOf x qual (defArgs st) (defBody st) (defScope st) .none kV doc pm an cdv ct) ⟨[u], []⟩ = pure [(a, u)])
    (h1 : ∀ (kV doc pm : Value) (an : Option Addr) (cdv ct u : Value), bindArgs (PySem.W.fnOf x qual (defArgs st) (defBody st) (defScope st) .none kV doc pm an cdv ct) ⟨[], [(a, u)]⟩ = pure [(a, u)]) :
    KBinds K fd [a] [a] (fun us ws => us ++ ws) (fun vs zs => vs ++ zs) := by
  obtain ⟨oc, od, kV, doc, pm, an, cdv, ct, osl, rfl, lk, hcd⟩ := F.ex
  refine ⟨fun s us ws _ hl => ?_, fun r q => r.append q⟩
  match us, ws, hl with
  | [u], [], _ => exact .of_eq (h0 kV doc pm an cdv ct u)
  | [], [u], _ => exact .of_eq (h1 kV doc pm an cdv ct u)
theorem g_repr {K : PySem.W.Frag} {H : Hp} {Q : VK} {a : Addr} (d : PyData) (hd : Dp K H (.ref a) d) (sh : d.showable = true ∧ d.hasDict = false ∧ d.depth ≤ 40 ∧ d.shown.length ≤ sizeLine) (q : Q (.str d.shown) H) : rRepr K [.ref a] H Q :=
  ⟨a, d, rfl, hd, sh.1, sh.2.1, sh.2.2.1, sh.2.2.2, q⟩
theorem g_dnew {σ : L2.St} {H : Hp} {Q : VK} (q : ∀ d, H d = none → Q (.ref d) (upd H d (.dK []))) : tDNewK σ H Q := q
theorem g_disp1 {σ : L2.St} {H : Hp} {Q : VK} {tk tv : TE} (q : ∀ p, H p = none → tk σ (upd H p (.dK [])) fun x H1 => tv σ H1 fun y H2 => H2 p = some (.dK []) ∧ ∃ kvs : List (Key × V), [(x, y)] = kvs.map (fun kv => (kV kv.1, kv.2)) ∧ kvs.length ≤ 15 ∧ Q (.ref p) (upd H2 p (.dK (mergeK [] kvs)))) : tDisp [(tk, tv)] σ H Q := q
theorem g_pair1 {A : Prop} {W : List (Key × V) → Prop} {x y : V} (k : Key) (e : x = kV k) (h : A) (q : W [(k, y)]) : A ∧ ∃ kvs : List (Key × V), [(x, y)] = kvs.map (fun kv => (kV kv.1, kv.2)) ∧ kvs.length ≤ 15 ∧ W kvs :=
  ⟨h, [(k, y)], by rw [e]; rfl, by (show 1 ≤ 15); decide, q⟩
end EvG

/-! Errors of own classes, held as values: made by place and by name, stored into, read, asked for their class. -/
namespace EvX
open PySem PySem.Spec PySem.Calls PyProof.Rows L2
section
variable {P : Program} {w : World} {M : Model} {A : Around} {E : Value → Shared → Prop} {R : Result → Shared → Prop} {h : Heap} {g : Array GenState} {d : Drawn} {t : Nat} {os : OsState}
variable {nm q : Str} {C N : Addr} {bs bm bmB : List Value} {hd : Bool} {sn : List Str} {sub : List Value} {ab : Bool} {col : Option Bool} {dd : Option Addr} {k0 k1 k2 k3 k5 : Option Value} {B newId initId : String}
  {us : List Value} {kw : List (Str × Value)}
theorem chk_new (F : ExcBaseFacts B newId initId bmB) (hT : ∀ Y : String, bm.contains (.type Y) = bmB.contains (.type Y)) {Q : Unit → Shared → Prop} (hC : h.get? C = some (excClassObj nm q C N bs bm hd sn sub ab col dd k0 k1 k2 k3 k5 newId))
    (hq : Q () ⟨h, g, d, t, os⟩) : wpAny M A (checkBuiltinCall newId ⟨.ref C :: us, kw⟩) Q E ⟨h, g, d, t, os⟩ := by
  have c1 : (Value.ref C :: bm).contains (.type B) = true := by
    rw [List.contains_cons, hT, F.hasB]
    exact Bool.or_true _
  have st := F.noStar
  simp only [checkBuiltinCall, F.newKind, F.newSplit, F.newRow]
  repeat (first
    | refine wpAny_loadPart_at hC ?_
    | (refine wpAny_isSubtype_exc hC ?_; rw [c1])
    | refine wpAny_staticBase_exc hC ?_
    | refine wpAny_madeBy_exc hC ?_
    | simp only [bne_self_eq_false, Bool.false_eq_true, if_false]
    | wp_step)
  exact hq
theorem run_new (F : ExcBaseFacts B newId initId bmB) (hT : ∀ Y : String, bm.contains (.type Y) = bmB.contains (.type Y)) (hC : h.get? C = some (excClassObj nm q C N bs bm hd sn sub ab col dd k0 k1 k2 k3 k5 newId)) (hz : us.length ≤ sizeLine)
    (hq : R (.ok (.ret (.ref (h.objs.size + 1)))) ⟨(h.push (PySem.W.kdv_tup us)).push (PySem.HandSPX.excO C h.objs.size), g, d, t, os⟩) : codeAny (model P w) A (.builtin newId ⟨.ref C :: us, kw⟩) R ⟨h, g, d, t, os⟩ := by
  have ends := F.ends
  have c1 : (Value.ref C :: bm).contains (.type B) = true := by
    rw [List.contains_cons, hT, F.hasB]
    exact Bool.or_true _
  have c2 : (Value.ref C :: bm).contains (.type "AttributeError") = false := by
    rw [List.contains_cons, hT, F.noAttr]
    rfl
  have c3 : (Value.ref C :: bm).contains (.type "NameError") = false := by
    rw [List.contains_cons, hT, F.noName]
    rfl
  apply codeAny_builtinAt F.entry
  unfold Builtin.«BaseException.__new__»
  apply PySem.wpAt_bind
  show PySem.wpAt _ _ _ (stack >>= _) _ _ _
  refine PySem.wpAt_bind (PySem.wpAt_stack fun p r => PySem.wpAt_of_wpAny ?_)
  wp_walk
  apply PySem.wpAt_of_wpAny
  rw [F.owner]
  repeat (first
    | with_reducible refine wpAny_madeHere_exc F.canon hC ?_
    | with_reducible refine wpAny_loadPart_at hC ?_
    | (with_reducible refine wpAny_isSubtype_exc hC ?_
       first | rw [c1] | rw [c2] | rw [c3])
    | wp_step)
  show R _ _
  rw [Heap.size_push]
  exact hq
theorem tcall_own (F : ExcBaseFacts B newId initId bmB) (hT : ∀ Y : String, bm.contains (.type Y) = bmB.contains (.type Y)) {fI : Addr} {Q : Fin → Shared → Prop} (hC : h.get? C = some (excClassObj nm q C N bs bm hd sn sub ab col dd k0 k1 k2 k3 k5 newId))
    (hi : PySem.W.Looks (model P w) h (typeLookup (.ref C) "__init__") (some (.ref fI))) (hb : ∀ self, PySem.W.Looks (model P w) h (bindSpecial (.ref fI) self) (.ref fI, [self])) (hz : us.length ≤ sizeLine)
    (hq : codeAny (model P w) A (.call (.ref fI) ⟨.ref (h.objs.size + 1) :: us, kw⟩) (fun r s' => match r with | .ok (.ret v) => v = .none ∧ Q (.done (.ret (.ref (h.objs.size + 1)))) s' | .ok _ => False | .error e => E e s')
      ⟨(h.push (PySem.W.kdv_tup us)).push (PySem.HandSPX.excO C h.objs.size), g, d, t, os⟩) :
    wpAny (model P w) A (Builtin.«type.__call__» ⟨.ref C :: us, kw⟩) Q E ⟨h, g, d, t, os⟩ := by
  repeat (first
    | with_reducible refine wpAny_loadPart_at hC ?_
    | with_reducible refine wpAny_madeBy_exc hC ?_
    | wp_step)
  refine codeAny_call_builtin_code (Code.quiet_builtin _ F.quiet) (chk_new F hT hC ?_)
  refine run_new F hT hC hz ?_
  show wpAny _ _ _ _ _ _
  have kept : ∀ b o, h.get? b = some o → ((h.push (PySem.W.kdv_tup us)).push (PySem.HandSPX.excO C h.objs.size)).get? b = some o := fun b o e => Heap.get?_push_of_some _ (Heap.get?_push_of_some _ e)
  have there : ((h.push (PySem.W.kdv_tup us)).push (PySem.HandSPX.excO C h.objs.size)).get? (h.objs.size + 1) = some (PySem.HandSPX.excO C h.objs.size) := by heap_get
  have c1 : (Value.ref C :: bm).contains (.ref C) = true := by simp
  have hC2 := kept _ _ hC
  have i1 := hi.keeps kept
  have b1 := (hb (.ref (h.objs.size + 1))).keeps kept
  unfold isInstance
  repeat (first
    | with_reducible refine wpAny_loadPart_at there ?_
    | (with_reducible refine wpAny_isSubtype_exc hC2 ?_; rw [c1])
    | wp_step)
  show wpAny _ _ (typeLookup (.ref C) _) _ _ _
  apply i1.at
  refine wpAny_holding (wpAny_bind (b1.at ?_))
  refine wpAny_bind (wpAny_call (codeAny_mono hq fun r s' z => ?_))
  cases r with
  | error e => exact z
  | ok f =>
    cases f with
    | ret v =>
      obtain ⟨rfl, z⟩ := z
      first
        | exact wpAny_pure (wpAny_pure z)
        | (wp_walk; exact z)
    | next => exact z.elim
    | brk => exact z.elim
    | cont => exact z.elim
theorem call_made (F : ExcBaseFacts B newId initId bmB) (hT : ∀ Y : String, bm.contains (.type Y) = bmB.contains (.type Y)) {fI : Addr} (hC : h.get? C = some (excClassObj nm q C N bs bm hd sn sub ab col dd k0 k1 k2 k3 k5 newId))
    (hi : PySem.W.Looks (model P w) h (typeLookup (.ref C) "__init__") (some (.ref fI))) (hb : ∀ self, PySem.W.Looks (model P w) h (bindSpecial (.ref fI) self) (.ref fI, [self])) (hz : us.length ≤ sizeLine)
    (hq : codeAny (model P w) (A.under (.builtin "type.__call__" ⟨.ref C :: us, kw⟩)) (.call (.ref fI) ⟨.ref (h.objs.size + 1) :: us, kw⟩) (PySem.W.InitBack (h.objs.size + 1) R)
      ⟨(h.push (PySem.W.kdv_tup us)).push (PySem.HandSPX.excO C h.objs.size), g, d, t, os⟩) :
    codeAny (model P w) A (.call (.ref C) ⟨us, kw⟩) R ⟨h, g, d, t, os⟩ := by
  have f1 := tc_lookup
  have f2 := tc_bind (.ref C)
  have ty : (⟨h, g, d, t, os⟩ : Shared).TypeIs (.ref C) "type" := ⟨_, hC, rfl⟩
  apply codeAny_of_tree
  show wpAny _ _ (callAny (.ref C) _) _ _ _
  repeat (any_goals (first
    | assumption
    | with_reducible refine wpAny_loadPart_at hC ?_
    | wp_step))
  refine ⟨rfl, ?_⟩
  refine codeAny_call_builtin_at (Code.quiet_builtin _ (by decide +kernel)) entry_typeCall (wpAny_check_type_call_sub hC (tcall_own F hT hC hi hb hz ?_))
  refine codeAny_mono hq fun r s' z => ?_
  cases r with
  | error e => exact z
  | ok f => cases f <;> exact z
end
end EvX

namespace EvX
open PySem PySem.Spec PySem.Calls PyProof.Rows L2 Builtin.ObjectAttr
/-- what a class of errors says of its things, so that they are asked and read -/
structure AskC (K : PySem.W.Frag) (C : Addr) : Prop where
  hd : PySem.W.hasDictIn K C = true
  ga : PySem.W.findIn K (.ref C) "__getattribute__" = some (some (.builtin "BaseException.__getattribute__"))
  gg : PySem.W.findIn K (.ref C) "__getattr__" = some none
  exC : PySem.W.subIn K (.ref C) (.type "BaseException") = some true
  ca : PySem.W.findIn K (.ref C) "__class__" = some (some (.builtin "object.__class__"))
  cn : PySem.W.specialIn K (.builtin "object.__class__") "__get__" = some (some (.builtin "getset_descriptor.__get__"))
  ct : PySem.W.takesIn K (.builtin "object.__class__") = some true
  cm : PySem.W.mroIn K C (.type "object") = some true
  keep : PySem.W.keepIn K (.ref C) = true
/-- and one that has its own __init__, over the built-in class B -/
structure ErrC (K : PySem.W.Frag) (C : Addr) (B newId initId : String) (bmB : List Value) : Prop where
  base : ExcBaseFacts B newId initId bmB
  sf : StoreFacts B bmB "object.__setattr__" "object"
  made : PySem.W.excInitIn K C bmB newId = true
  over : PySem.W.excOver K C bmB = true
  sa : PySem.W.findIn K (.ref C) "__setattr__" = some (some (.builtin "object.__setattr__"))
  ask : AskC K C
def eOb (C t : Addr) (d : Option Addr) : Obj := { cls := .ref C, dict := d, data := .fields #[.ref t, .none, .none, .none, .bool false, .none] }
section
variable {X : Cx} {pins : List (Addr × Obj)} {σ : L2.St} {H : Hp} {s : Shared} {a C dx : Addr} {f : Str} {y : V} {u : Value} {fs : List (Str × V)} {Q : Unit → Shared → Prop} {E : Value → Shared → Prop} {A : Around} {B newId initId : String} {bmB : List Value}
theorem two_written {h' : Heap} {n : Nat} (I : Inv X pins σ H s) (e : H a = some (exo a C none)) (k : ∀ b o, b ≠ a → s.heap.get? b = some o → h'.get? b = some o) (dn : s.heap.objs.size ≤ dx) {t : Addr} (hx : h'.get? a = some (eOb C t (some dx)))
    {mA : Str → Option Value} (hn : h'.Ns1 dx mA) (r : ∀ g, RelO (fs.lookup g) (mA g)) :
    Inv X pins σ (upd (upd H dx (exd dx fs)) a (exo a C (some dx))) { s with heap := h', toks := n } := by
  have gone : H dx = none := I.hok.fresh dn
  have past : ∀ {b : Addr} {o : Obj}, s.heap.get? b = some o → b ≠ dx := by
    intro b o q z
    subst z
    exact absurd (Heap.lt_size q) (Nat.not_lt.mpr dn)
  have off : ∀ {b : Addr}, H b = none → b ≠ a := by
    intro b n z
    rw [z, e] at n
    cases n
  have un : Un X.fs [] H (upd (upd H dx (exd dx fs)) a (exo a C (some dx))) s.heap h' := by
    refine ⟨?_, ?_, ?_, ?_, ?_, ?_, ?_⟩
    · intro b o q n _ _
      exact k b o (off n) q
    · intro b o q n _ _
      exact ⟨o.slots, k b o (off n) q⟩
    · intro b o q n _
      rw [upd_ne (off n), upd_ne (past q)]
      exact n
    · intro b o q _
      by_cases z : b = a
      · subst z
        exact ⟨_, hx⟩
      · exact ⟨o, k b o z q⟩
    · intro b xs q
      rw [upd_ne (at_ne e q exo_tup), upd_ne (ne_of_none q gone)]
      exact q
    · intro b o v q
      rw [upd_ne (at_ne e q exo_frz), upd_ne (ne_of_none q gone)]
      exact q
    · intro b ps q
      refine ⟨#[], ?_⟩
      rw [upd_ne (at_ne e q exo_tbl), upd_ne (ne_of_none q gone), q]
      simp
  refine I.un un ?_
  intro b o q
  by_cases z : b = a
  · subst z
    rw [upd_same] at q
    cases q
    exact exo_ok hx
  rw [upd_ne z] at q
  by_cases z2 : b = dx
  · subst z2
    rw [upd_same] at q
    cases q
    exact exd_ok hn r
  rw [upd_ne z2] at q
  refine (I.hok b o q).stay ?_ ?_ ?_
  · intro c v hc w
    refine k c v ?_ w
    rcases hc with hc | hc
    · rw [hc]
      exact z
    · exact at_ne e hc exo_own
  · intro c hc
    rw [upd_ne (at_ne e hc exo_own), upd_ne (ne_of_none hc gone)]
    exact hc
  · intro c xs hc
    rw [upd_ne (at_ne e hc exo_tup), upd_ne (ne_of_none hc gone)]
    exact hc
/-- the first field -/
theorem put_new (T : ErrC X.K C B newId initId bmB) (I : Inv X pins σ H s) (e : H a = some (exo a C none)) (ht : PySem.W.takerIn X.K C f = some none) (ry : RelV y u)
    (h : ∀ dx s', H dx = none → dx ≠ a → Inv X pins σ (upd (upd H dx (exd dx [(f, y)])) a (exo a C (some dx))) s' → Q () s') : wpAny (model X.prog X.w) A (setAttr (.ref a) f u) Q E s := by
  obtain ⟨t1, ho⟩ := exo_at I.hok e
  obtain ⟨cd, hc, hd⟩ := PySem.W.any_some T.ask.hd
  have low : a < s.heap.objs.size := Heap.lt_size ho
  have new : H s.heap.objs.size = none := I.hok.fresh (Nat.le_refl _)
  obtain ⟨hp, g, d, tk, os⟩ := s
  refine PySem.W.set_plain I.kIn (ox := eOb C t1 none) (od := none) ⟨ho, rfl, rfl, trivial⟩ T.sa ?_
  refine PySem.W.osa_openX (od := none) T.sf I.kIn ⟨ho, rfl, rfl, trivial⟩ T.over ht fun b => ?_
  refine wpAny_bind (wpAny_pure (wpAny_bind (PySem.W.instanceDict_exc ho (PySem.W.looks_clsIn I.kIn hc) hd ?_)))
  show wpAny _ _ (storeInDict hp.objs.size (.str f _) f u) _ _ _
  have od : ((hp.push (PySem.W.dictOf [] 0)).update a fun o => { o with dict := some hp.objs.size }).get? hp.objs.size = some (PySem.W.dictOf [] 0) := (Heap.get?_update_ne _ _ _ _ (Nat.ne_of_gt low)).trans (Heap.get?_push_at rfl rfl)
  have oa : ((hp.push (PySem.W.dictOf [] 0)).update a fun o => { o with dict := some hp.objs.size }).get? a = some (eOb C t1 (some hp.objs.size)) := Heap.get?_update_self _ (Heap.get?_push_of_some _ ho) rfl
  refine PySem.HandSPX.store_in_new ⟨_, #[], _, od, rfl, fun e he => absurd he (by simp), fun _ => rfl⟩ ?_
  intro h' tk' hn sb
  refine h hp.objs.size ⟨h', g, d, tk', os⟩ new (Nat.ne_of_gt low) (two_written (s := ⟨hp, g, d, tk, os⟩) I e ?_ (Nat.le_refl _) (t := t1) ?_ hn (relO_put (fs := []) ry fun _ => trivial))
  · intro b o hb q
    exact (sb.2 b (Nat.ne_of_lt (Heap.lt_size q))).trans ((Heap.get?_update_ne _ _ _ _ hb).trans (Heap.get?_push_of_some _ q))
  · exact (sb.2 a (Nat.ne_of_lt low)).trans oa
/-- a further field -/
theorem put_more (T : ErrC X.K C B newId initId bmB) (I : Inv X pins σ H s) (e : H a = some (exo a C (some dx))) (ed : H dx = some (exd dx fs)) (hl : fs.length ≤ 900) (ht : PySem.W.takerIn X.K C f = some none) (ry : RelV y u)
    (h : ∀ s', Inv X pins σ (upd H dx (exd dx ((f, y) :: fs))) s' → Q () s') : wpAny (model X.prog X.w) A (setAttr (.ref a) f u) Q E s := by
  obtain ⟨t1, ho⟩ := exo_at I.hok e
  obtain ⟨mA, hns, rel⟩ := exd_at I.hok ed
  obtain ⟨cd, hc, hd⟩ := PySem.W.any_some T.ask.hd
  have hw := within_of rel
  obtain ⟨hp, g, d, tk, os⟩ := s
  obtain ⟨oD, _, _, hoD, _, _⟩ := hns.count hw
  refine PySem.W.set_plain I.kIn (ox := eOb C t1 (some dx)) (od := some oD) ⟨ho, rfl, rfl, hoD⟩ T.sa ?_
  refine PySem.W.osa_openX (od := some oD) T.sf I.kIn ⟨ho, rfl, rfl, hoD⟩ T.over ht fun b => ?_
  refine wpAny_bind (wpAny_pure (wpAny_bind (wpAny_bind (wpAny_loadPart ho (wpAny_bind ((PySem.W.looks_clsIn I.kIn hc).at ?_))))))
  rw [hd]
  refine wpAny_pure (a := some dx) ?_
  show wpAny _ _ (storeInDict dx (.str f _) f u) _ _ _
  refine PySem.OEX.store_in_old hns hw (by rw [List.length_map]; omega) ?_
  intro h' tk' hn sb
  have there : ∃ o, h'.get? dx = some o := by
    obtain ⟨o, _, _, q, _⟩ := hn
    exact ⟨o, q⟩
  exact h _ (I.write (x := dx) (e := dx) (o := exd dx ((f, y) :: fs)) (by rw [ed]; exact trivial) (.inl rfl) (fun b o hb q => (sb.2 b hb).trans q) there (exd_ok hn (relO_put ry rel)))
end
end EvX

namespace EvX
open PySem PySem.Spec PySem.Calls PyProof.Rows L2 Builtin.ObjectAttr
abbrev Ext (H H' : Hp) : Prop := Same H H'
theorem Same.rfl {H : Hp} : Ext H H := fun _ _ h => h
theorem Same.trans {H H1 H2 : Hp} (a : Ext H H1) (b : Ext H1 H2) : Ext H H2 := fun c o h => b c o (a c o h)
theorem ext_new {H : Hp} {a : Addr} {o : HO} (h : H a = none) : Ext H (upd H a o) := fun b u q => by
  rw [upd_ne (ne_of_none q h)]
  exact q
/-- an error of the class C with these fields stands at a -/
def IsE (C : Addr) (fs : List (Str × V)) (a : Addr) (H : Hp) : Prop := ∃ d, H a = some (exo a C d) ∧ match d with | none => fs = [] | some dx => H dx = some (exd dx fs)
theorem IsE.ext {C : Addr} {fs : List (Str × V)} {a : Addr} {H H' : Hp} (h : IsE C fs a H) (e : Ext H H') : IsE C fs a H' := by
  obtain ⟨d, h1, h2⟩ := h
  refine ⟨d, e _ _ h1, ?_⟩
  cases d with
  | none => exact h2
  | some dx => exact e _ _ h2
/-- the fields of the new error at a are laid -/
def LaidE (H : Hp) (a C : Addr) (fs : List (Str × V)) (H' : Hp) : Prop := ∃ dx, H dx = none ∧ dx ≠ a ∧ H' a = some (exo a C (some dx)) ∧ H' dx = some (exd dx fs) ∧ ∀ b, b ≠ a → b ≠ dx → H' b = H b
theorem LaidE.isE {H H' : Hp} {a C : Addr} {o : HO} {fs : List (Str × V)} (n : H a = none) (h : LaidE (upd H a o) a C fs H') : IsE C fs a H' ∧ Ext H H' := by
  obtain ⟨dx, h1, h2, h3, h4, h5⟩ := h
  refine ⟨⟨some dx, h3, h4⟩, fun b u q => ?_⟩
  have ba : b ≠ a := ne_of_none q n
  have n2 : H dx = none := by
    rw [upd_ne h2] at h1
    exact h1
  rw [h5 b ba (ne_of_none q n2), upd_ne ba]
  exact q
/-! ### self.f = e in an __init__ -/
def tPut (K : PySem.W.Frag) (f : Str) (to te : TE) : TS := fun D σ H => te σ H fun y H1 => to σ H1 fun x H2 => ∃ a C : Addr, x = .ref a ∧ (∃ B n i bm, ErrC K C B n i bm) ∧ PySem.W.takerIn K C f = some none ∧
  ((H2 a = some (exo a C none) ∧ ∀ H', LaidE H2 a C [(f, y)] H' → D.nx σ H') ∨ ∃ (H0 : Hp) (fs : List (Str × V)), LaidE H0 a C fs H2 ∧ fs.length ≤ 900 ∧ ∀ H', LaidE H0 a C ((f, y) :: fs) H' → D.nx σ H')
theorem ps_put {X : Cx} {o e : Expr} {to te : TE} {f : Str} {p' pos : Pos} (ho : PE X o to) (he : PE X e te) (hs : swapsWith e (some (.Attribute o f p')) pos.line X.env = pure false := by rfl) : PS X (.Assign [.Attribute o f p'] e pos) (tPut X.K f to te) := by
  constructor
  intro pins s σ H D I h
  refine plainObj_wpAny_Assign_Attribute (thn (he.run pins s σ H _ I h) ?_) hs
  rintro v s1 ⟨y, H1, I1, r1, q1⟩
  refine thn (ho.run pins s1 σ H1 _ I1 q1) ?_
  rintro u s2 ⟨x, H2, I2, r2, a, C, rfl, ⟨B, n, i, bm, T⟩, ht, q⟩
  obtain rfl : u = Value.ref a := r2
  rcases q with ⟨ea, q⟩ | ⟨H0, fs, L, hl, q⟩
  · refine put_new T I2 ea ht r1 ?_
    intro dx s' n ne J
    refine ⟨σ, _, J, q _ ⟨dx, n, ne, upd_same, ?_, fun b h1 h2 => ?_⟩⟩
    · rw [upd_ne ne, upd_same]
    · rw [upd_ne h1, upd_ne h2]
  · obtain ⟨dx, h1, h2, h3, h4, h5⟩ := L
    refine put_more T I2 h3 h4 hl ht r1 ?_
    intro s' J
    refine ⟨σ, _, J, q _ ⟨dx, h1, h2, ?_, upd_same, fun b b1 b2 => ?_⟩⟩
    · rw [upd_ne (Ne.symm h2)]
      exact h3
    · rw [upd_ne b2]
      exact h5 b b1 b2
/-! ### C(..) -/
/-- what an __init__ does that keeps its n values as these fields -/
def spI (C : Addr) (n : Nat) (F : List V → List (Str × V)) : Sp := fun vs H Q _ => ∃ a ys, vs = .ref a :: ys ∧ ys.length = n ∧ H a = some (exo a C none) ∧ ∀ H', LaidE H a C (F ys) H' → Q .non H'
section
variable {X : Cx} {CX : CXT} {k : Nat} {fI C : Addr} {fd : FuncData} {ps ks : List Str} {sp : Sp} {x : Str} {p pos : Pos} {e : Expr} {es : List Expr} {kws : List Keyword} {ta tk : TA} {g : List Value → List Value → List Value} {gV : List V → List V → List V} {B newId initId : String} {bmB : List Value}
theorem run_err {pins : List (Addr × Obj)} {σ : L2.St} {H : Hp} {s : Shared} {Q : VK} {us ws : List Value} {vs zs : List V} (T : ErrC X.K C B newId initId bmB) (iC : PySem.W.findIn X.K (.ref C) "__init__" = some (some (.ref fI))) (tI : PySem.W.typeIn X.K (.ref fI) = some (.type "function"))
    (F : FnOk X.prog X.w X.K X.mg X.base CX k fI fd ps sp) (hr : Room (k + 1) X.A) (hb : KBinds X.K fd ps ks g gV) (hx : Passes CX X (fun _ _ _ => False)) (I : Inv X pins σ H s) (r : Vals vs us) (rz : Vals zs ws) (hz : vs.length ≤ 1000)
    (h : ∀ a, H a = none → sp (gV (.ref a :: vs) zs) (upd H a (exo a C none)) (fun v H2 => v = .non ∧ Q (.ref a) H2) (fun _ _ _ => False)) :
    wpAny (model X.prog X.w) X.A (call (.ref C) us (ks.zip ws)) (EP X pins σ Q) X.xe s := by
  obtain ⟨nm, N', qn, bs, bm, hdct, sn, sub, ab, col, dd, k0, k1, k2, k3, k5, hC, hT⟩ := PySem.W.excInit_of I.kIn T.made
  obtain ⟨hp, gs, dr, tk, os⟩ := s
  have up : hp.objs.size ≤ hp.objs.size + 1 := Nat.le_succ _
  have new : H (hp.objs.size + 1) = none := I.hok.fresh up
  have hq := h (hp.objs.size + 1) new
  have kept : ∀ b o, hp.get? b = some o → ((hp.push (PySem.W.kdv_tup us)).push (PySem.HandSPX.excO C hp.objs.size)).get? b = some o := fun b o q => Heap.get?_push_of_some _ (Heap.get?_push_of_some _ q)
  have there : ((hp.push (PySem.W.kdv_tup us)).push (PySem.HandSPX.excO C hp.objs.size)).get? (hp.objs.size + 1) = some (PySem.HandSPX.excO C hp.objs.size) := by heap_get
  have J : Inv X pins σ (upd H (hp.objs.size + 1) (exo (hp.objs.size + 1) C none)) ⟨(hp.push (PySem.W.kdv_tup us)).push (PySem.HandSPX.excO C hp.objs.size), gs, dr, tk, os⟩ :=
    I.laid (t' := tk) kept up (exo_ok there)
  have r1 : Vals (V.ref (hp.objs.size + 1) :: vs) (Value.ref (hp.objs.size + 1) :: us) := .cons rfl r
  have r2 := hb.rel r1 rz
  have many : (g (Value.ref (hp.objs.size + 1) :: us) ws).length = ps.length := r2.length.symm.trans (F.len _ _ _ _ hq)
  have small : us.length ≤ sizeLine := by
    rw [← Paired.length r, sizeLine_eq]
    omega
  refine wpAny_call (call_made T.base hT hC (PySem.W.looks_findIn I.kIn iC) (fun self => PySem.W.bind_fn I.kIn self tI) small ?_)
  refine codeAny_mono (F.run _ X.stack _ _ ⟨Value.ref (hp.objs.size + 1) :: us, ks.zip ws⟩ (g (Value.ref (hp.objs.size + 1) :: us) ws) _ _ (fun _ _ _ => False) (hr.make C us (ks.zip ws)) (J.env0.make C us (ks.zip ws)) (hb.to _ _ ws J.kIn many) r2 hq) ?_
  intro res s' hq'
  cases res with
  | error er => exact hx pins σ _ _ er s' J hq'
  | ok fl =>
    cases fl with
    | next => exact hq'.elim
    | brk => exact hq'.elim
    | cont => exact hq'.elim
    | ret u =>
      obtain ⟨v, H2, I3, rv, ev, q3⟩ := J.after hq'
      subst ev
      exact ⟨rv, V.ref (hp.objs.size + 1), H2, I3, rfl, q3⟩
/-- C(e, ..) -/
def tMkE (C : Addr) (sp : Sp) (gV : List V → List V → List V) (ta tk : TA) : TE := fun σ H Q => ta σ H fun vs H1 => tk σ H1 fun zs H2 => vs.length ≤ 1000 ∧ ∀ a, H2 a = none → sp (gV (.ref a :: vs) zs) (upd H2 a (exo a C none)) (fun v H3 => v = .non ∧ Q (.ref a) H3) (fun _ _ _ => False)
theorem pe_mkE (T : ErrC X.K C B newId initId bmB) (iC : PySem.W.findIn X.K (.ref C) "__init__" = some (some (.ref fI))) (tI : PySem.W.typeIn X.K (.ref fI) = some (.type "function")) (F : FnOk X.prog X.w X.K X.mg X.base CX k fI fd ps sp) (hr : Room (k + 1) X.A)
    (hb : KBinds X.K fd ps [] g gV) (hx : Passes CX X (fun _ _ _ => False)) (hg : Gl X x) (hm : X.mg x = some (.ref C)) (ha : PA X (e :: es) ta)
    (hdb : (x == ("__debug__" : Str)) = false := by decide) (he : starEach (e :: es) X.env = (false, eval e X.env) :: starEach es X.env := by rfl) (hpl : (backTo pos (starEach es X.env)).any (·.1) = false := by rfl) :
    PE X (.Call (.Name x p) (e :: es) [] pos) (tMkE C sp gV ta tNil) := by
  constructor
  intro pins s σ H Q I h
  apply wpAny_Call_Name_kw
  refine ld_glob I hg hm ?_ hdb
  refine PySem.W.callWith_K (h₀ := X.base) I.ok.mod.kin T.ask.keep (thn (ha.run pos pins s σ H _ I h) ?_) he hpl
  rintro us s1 ⟨vs, H1, I1, r, q⟩
  obtain ⟨hz, q⟩ := (show vs.length ≤ 1000 ∧ _ from q)
  exact ⟨I1.kIn, run_err (ws := []) (zs := []) T iC tI F hr hb hx I1 r .nil hz q⟩
/-- C(k = e, ..) -/
theorem pe_mkEK (T : ErrC X.K C B newId initId bmB) (iC : PySem.W.findIn X.K (.ref C) "__init__" = some (some (.ref fI))) (tI : PySem.W.typeIn X.K (.ref fI) = some (.type "function")) (F : FnOk X.prog X.w X.K X.mg X.base CX k fI fd ps sp) (hr : Room (k + 1) X.A)
    (hb : KBinds X.K fd ps ks g gV) (hx : Passes CX X (fun _ _ _ => False)) (hg : Gl X x) (hm : X.mg x = some (.ref C)) (hkw : PK X kws tk)
    (hall : (backToKw pos (keywordEach kws X.env)).all (·.1.isSome) = true := by rfl) (hks : (backToKw pos (keywordEach kws X.env)).filterMap (·.1) = ks := by rfl)
    (hdb : (x == ("__debug__" : Str)) = false := by decide) (hpl : ((backTo pos (starEach [] X.env)).any (·.1) || (backToKw pos (keywordEach kws X.env)).any (·.1.isNone)) = false := by rfl) :
    PE X (.Call (.Name x p) [] kws pos) (tMkE C sp gV tNil tk) := by
  constructor
  intro pins s σ H Q I h
  apply wpAny_Call_Name_kw
  refine ld_glob I hg hm ?_ hdb
  refine PySem.W.callWith_KW0 (h₀ := X.base) I.ok.mod.kin T.ask.keep hall ?_ hpl
  refine thn (hkw.run pos pins s σ H _ I h) ?_
  rintro ws s2 ⟨zs, H2, I2, rz, q⟩
  obtain ⟨hz, q⟩ := (show ([] : List V).length ≤ 1000 ∧ _ from q)
  refine ⟨I2.kIn, ?_⟩
  rw [hks]
  exact run_err (us := []) (vs := []) T iC tI F hr hb hx I2 .nil rz hz q
/-- C(), C without an __init__ of its own -/
theorem pe_mk0 (F : ExcBaseFacts B newId initId bmB) (q : PySem.W.excIn X.K C bmB newId = true) (kC : PySem.W.keepIn X.K (.ref C) = true) (hg : Gl X x) (hm : X.mg x = some (.ref C))
    (hall : (backToKw pos (keywordEach [] X.env)).all (·.1.isSome) = true := by rfl) (hks : (backToKw pos (keywordEach [] X.env)).filterMap (·.1) = [] := by rfl)
    (hdb : (x == ("__debug__" : Str)) = false := by decide) (hpl : ((backTo pos (starEach [] X.env)).any (·.1) || (backToKw pos (keywordEach [] X.env)).any (·.1.isNone)) = false := by rfl) :
    PE X (.Call (.Name x p) [] [] pos) (fun _ H Q => ∀ a, H a = none → Q (.ref a) (upd H a (exo a C none))) := by
  constructor
  intro pins s σ H Q I h
  apply wpAny_Call_Name_kw
  refine ld_glob I hg hm ?_ hdb
  refine PySem.W.callWith_KW0 (h₀ := X.base) I.ok.mod.kin kC hall ?_ hpl
  refine thn ((pk_nil (X := X)).run pos pins s σ H (fun zs H1 => zs = [] ∧ H1 = H) I ⟨rfl, rfl⟩) ?_
  rintro ws s2 ⟨zs, H2, I2, rz, rfl, rfl⟩
  cases rz
  refine ⟨I2.kIn, ?_⟩
  rw [hks]
  show wpAny _ _ (call (.ref C) []) _ _ _
  obtain ⟨bm, N, nm, qn, bs, hdct, sn, sub, ab, col, dd, k0, k1, k2, k3, k5, mN, hC, hN, hni, T⟩ := exc_obj I2.kIn q
  refine wpAny_call_exc_subT F T hC hN hni (fun h' a hm' => ?_) (by show 0 ≤ sizeLine; omega)
  have hn : H2 a = none := I2.hok.gone hm'.new
  obtain ⟨t, ht, _, _⟩ := hm'.there
  exact ⟨.ref a, upd H2 a (exo a C none), I2.laidN hm'.keeps hm'.new hn (exo_ok ht), rfl, h a hn⟩
/-- binds of a call by place as binds by names -/
theorem kb_all (h : ∀ us : List Value, us.length = ps.length → bindArgs fd ⟨us, []⟩ = pure (ps.zip us)) : KBinds X.K fd ps [] (fun us _ => us) (fun vs _ => vs) :=
  ⟨fun s us ws _ hl => by
    have e : ([] : List Str).zip ws = [] := rfl
    rw [e]
    exact .of_eq (h us hl), fun r _ => r⟩
end
/-! ### e.f and isinstance(e, c) -/
section
variable {X : Cx} {C a : Addr} {fs : List (Str × V)}
def tFld (K : PySem.W.Frag) (f : Str) (te : TE) : TE := fun σ H Q => te σ H fun x H1 => ∃ (a C : Addr) (fs : List (Str × V)) (v : V), x = .ref a ∧ AskC K C ∧ PySem.W.findIn K (.ref C) f = some none ∧ IsE C fs a H1 ∧ fs.lookup f = some v ∧ Q v H1
theorem pe_fldE {e : Expr} {te : TE} {pos : Pos} {f : Str} (he : PE X e te) (hb : attributeBase e f X.env (eval e X.env) = eval e X.env := by rfl) : PE X (.Attribute e f pos) (tFld X.K f te) := by
  constructor
  intro pins s σ H Q I h
  refine attr_of hb (thn (he.run pins s σ H _ I h) ?_)
  rintro u s1 ⟨x, H1, I1, rx, a, C, fs, v, rfl, T, hno, ⟨d, ea, ed⟩, l, q⟩
  obtain rfl : u = Value.ref a := rx
  cases d with
  | none =>
    have z : fs = [] := ed
    subst z
    cases l
  | some dx =>
    obtain ⟨t1, ho⟩ := exo_at I1.hok ea
    obtain ⟨mA, hns, hr⟩ := exd_at I1.hok ed
    obtain ⟨od, hod, hl⟩ := lookIn_ns hns
    obtain ⟨w, hw, rw'⟩ := RelO.some_of (v := v) (o := mA f) (by rw [← l]; exact hr f)
    have J : PySem.W.InstAt s1.heap a (eOb C t1 (some dx)) C (some od) := ⟨ho, rfl, rfl, hod⟩
    exact HandSPX.exc_get I1.kIn J T.ga T.gg T.exC (PySem.W.findObj_own T.hd hno rfl (by rw [hl, hw])) (handed_of rw') ⟨v, H1, I1.tok _, rw', q⟩
def rAskE (K : PySem.W.Frag) : List V → Hp → VK → Prop := fun xs H Q => ∃ (a C : Addr) (fs : List (Str × V)) (c : V) (cv : Value) (b : Bool), xs = [.ref a, c] ∧ (∀ u, RelV c u → u = cv) ∧ AskC K C ∧ IsE C fs a H ∧ PySem.W.kitOne K (.ref C) cv = some b ∧ Q (.bl b) H
theorem call_askE : CallR X (.builtin "isinstance") (rAskE X.K) := by
  intro pins s σ H xs us Q I r h
  obtain ⟨a, C, fs, c, cv, b, rfl, hcv, T, ⟨d, ea, ed⟩, e, q⟩ := h
  obtain ⟨t1, ho⟩ := exo_at I.hok ea
  obtain ⟨cd, hc, _⟩ := PySem.W.any_some T.hd
  have own : (PySem.W.clsIn X.K C).isSome = true := by
    rw [hc]
    rfl
  cases r with
  | cons rx rr =>
    cases rr with
    | cons rt rr =>
      cases rr
      cases rx
      have ec := hcv _ rt
      subst ec
      have fin : ∀ tk, EP X pins σ Q (.bool b) { s with toks := tk } := fun tk => ⟨.bl b, H, I.kept (t' := tk) fun _ _ z => z, rfl, q⟩
      cases d with
      | none =>
        have J : PySem.W.InstAt s.heap a (eOb C t1 none) C none := ⟨ho, rfl, rfl, trivial⟩
        exact PySem.W.kia_one (PySem.W.kitx_exc own T.ga T.gg T.exC T.ca T.cn T.ct T.cm) I.kIn J e (fun z => nomatch z) fin
      | some dx =>
        obtain ⟨mA, ⟨od, es, ep, hod, _⟩, _⟩ := exd_at I.hok ed
        have J : PySem.W.InstAt s.heap a (eOb C t1 (some dx)) C (some od) := ⟨ho, rfl, rfl, hod⟩
        exact PySem.W.kia_one (PySem.W.kitx_exc own T.ga T.gg T.exC T.ca T.cn T.ct T.cm) I.kIn J e (fun z => nomatch z) fin
end
end EvX

/-! list(enumerate(xs)), xs a list -/
namespace EvX
open PySem PySem.Spec PySem.Calls PyProof.Rows L2
/-- the object of an enumerate whose last pair, at a, still lives -/
abbrev enOut (a it : Addr) (f : Bool) (i : Int) (old : Value) : Obj := { cls := .type "enumerate", dict := none, data := .fields #[rawInt a, .bool f, .ref it, rawInt i, .none, old], slots := #[] }
def EnS (h : Heap) (e it S : Addr) (i : Nat) : Prop := (∃ old, IsEnum h e it (i : Int) old) ∨ ∃ (a : Addr) (f : Bool) (old : Value) (o : Obj), h.get? e = some (enOut a it f (i : Int) old) ∧ h.get? a = some o ∧ a ≠ e ∧ a ≠ it ∧ a ≠ S
theorem EnS.keep {h h' : Heap} {e it S : Addr} {i : Nat} (x : EnS h e it S i) (k : ∀ b o, b ≠ S → h.get? b = some o → h'.get? b = some o) (n : e ≠ S) : EnS h' e it S i := by
  rcases x with ⟨old, q⟩ | ⟨a, f, old, o, q, qa, h1, h2, h3⟩
  · exact .inl ⟨old, k _ _ n q⟩
  · exact .inr ⟨a, f, old, o, k _ _ n q, k _ _ h3 qa, h1, h2, h3⟩
section
variable {P : Program} {w : World} {A : Around} {E : Value → Shared → Prop} {s : Shared} {e it l S : Addr} {i : Nat} {items : Array Value} {x : Value} {Q : Option Value → Shared → Prop}
theorem en_out {a : Addr} {f : Bool} {old : Value} {o : Obj} (he : s.heap.get? e = some (enOut a it f (i : Int) old)) (ha : s.heap.get? a = some o) (ae : a ≠ e) (ai : a ≠ it) (hit : s.heap.IsListIter it l i) (hl : s.heap.IsList l items) (hx : items[i]? = some x) (hne : e ≠ it)
    (hQ : ∀ h' f', h'.get? e = some (enOut a it f' ((i : Int) + 1) old) → h'.IsListIter it l (i + 1) → h'.get? s.heap.objs.size = some { cls := .type "tuple", data := .seq #[.int i s.toks, x] } → h'.objs.size = s.heap.objs.size + 1 →
      (∀ b o, b ≠ e → b ≠ it → s.heap.get? b = some o → h'.get? b = some o) → Q (some (.ref s.heap.objs.size)) { s with heap := h', toks := s.toks + 1 }) :
    wpAny (model P w) A (pyNext (.ref e)) Q E s := by
  have ty : s.TypeIs (.ref e) "enumerate" := ⟨_, he, rfl⟩
  obtain ⟨hp, g, d, tk, os⟩ := s
  unfold pyNext
  refine wpAny_bind (wpAny_attempt (wpAny_callSpecial?_slot (name := Str.ofString "__next__") ty F.slot_enumerate_next (wpAny_call_entry F.slot_enumerate_next ty F.entry_enumerate_next ?_ (F.args_enumerate_next_1 _))))
  show wpAny _ _ (field (.ref e) 2 >>= _) _ _ _
  refine wpAny_bind (wpAny_field he rfl (x := .ref it) rfl ?_)
  refine wpAny_bind (wpAny_nextOf_list_item hit hl hx fun h1 hit1 sb1 => ?_)
  have sb1 : Heap.SameBut it hp h1 := sb1
  have e1 : h1.get? e = some (enOut a it f (i : Int) old) := (sb1.2 e hne).trans he
  show wpAny _ _ (field (.ref e) 3 >>= _) _ _ ⟨h1, g, d, tk, os⟩
  refine wpAny_bind (wpAny_field e1 rfl (x := rawInt i) rfl ?_)
  show wpAny _ _ (field (.ref e) 4 >>= _) _ _ ⟨h1, g, d, tk, os⟩
  refine wpAny_bind (wpAny_field e1 rfl (x := .none) rfl ?_)
  show wpAny _ _ (mkInt i >>= _) _ _ ⟨h1, g, d, tk, os⟩
  refine wpAny_bind (wpAny_mkInt ?_)
  show wpAny _ _ (setField (.ref e) 3 (rawInt ((i : Int) + 1)) >>= _) _ _ ⟨h1, g, d, tk + 1, os⟩
  refine wpAny_bind (wpAny_setField_rec e1 (by simp) fun h2 e2 sb2 => ?_)
  have sb2 : Heap.SameBut e h1 h2 := sb2
  have e2 : h2.get? e = some (enOut a it f ((i : Int) + 1) old) := e2
  show wpAny _ _ (setField (.ref e) 4 .none >>= _) _ _ ⟨h2, g, d, tk + 1, os⟩
  refine wpAny_bind (wpAny_setField_rec e2 (by simp) fun h3 e3 sb3 => ?_)
  have sb3 : Heap.SameBut e h2 h3 := sb3
  have e3 : h3.get? e = some (enOut a it f ((i : Int) + 1) old) := e3
  show wpAny _ _ (newTuple [.int i tk, x] >>= _) _ _ ⟨h3, g, d, tk + 1, os⟩
  refine wpAny_bind (wpAny_newTuple ?_)
  have sz : h3.objs.size = hp.objs.size := by rw [sb3.1, sb2.1, sb1.1]
  have k3 : ∀ b o, b ≠ e → b ≠ it → hp.get? b = some o → h3.get? b = some o := fun b o n1 n2 q => sb3.extBut b o n1 (sb2.extBut b o n1 (sb1.extBut b o n2 q))
  have it3 : h3.IsListIter it l (i + 1) := (hit1.extBut sb2.extBut (Ne.symm hne)).extBut sb3.extBut (Ne.symm hne)
  have el : e < hp.objs.size := Heap.lt_size he
  have e4 : (h3.push { cls := .type "tuple", data := .seq #[.int i tk, x] }).get? e = some (enOut a it f ((i : Int) + 1) old) := Heap.get?_push_of_some _ e3
  have t4 : (h3.push { cls := .type "tuple", data := .seq #[.int i tk, x] }).get? hp.objs.size = some { cls := .type "tuple", data := .seq #[.int i tk, x] } := by
    rw [← sz]
    exact Heap.get?_push_size _ rfl
  have a4 : (h3.push { cls := .type "tuple", data := .seq #[.int i tk, x] }).get? a = some o := Heap.get?_push_of_some _ (k3 a o ae ai ha)
  have z4 : (h3.push { cls := .type "tuple", data := .seq #[.int i tk, x] }).objs.size = hp.objs.size + 1 := by rw [Heap.size_push, sz]
  have it4 : (h3.push { cls := .type "tuple", data := .seq #[.int i tk, x] }).IsListIter it l (i + 1) := by
    obtain ⟨o, ho, r⟩ := it3
    exact ⟨o, Heap.get?_push_of_some _ ho, r⟩
  have k4 : ∀ b o, b ≠ e → b ≠ it → hp.get? b = some o → (h3.push { cls := .type "tuple", data := .seq #[.int i tk, x] }).get? b = some o := fun b o n1 n2 q => Heap.get?_push_of_some _ (k3 b o n1 n2 q)
  show wpAny _ _ (Builtin.SmallTypes.ownedTupleIsFree (.ref e) >>= _) _ _ ⟨h3.push { cls := .type "tuple", data := .seq #[.int i tk, x] }, g, d, tk + 1, os⟩
  rw [sz]
  generalize h3.push { cls := .type "tuple", data := .seq #[.int i tk, x] } = h4 at e4 t4 a4 z4 it4 k4 ⊢
  clear it3 k3 e3 sb3 e2 sb2 e1 sb1 hit1 sz
  refine wpAny_bind ?_
  unfold Builtin.SmallTypes.ownedTupleIsFree
  refine wpAny_bind (wpAny_field e4 rfl (x := rawInt a) rfl ?_)
  show wpAny _ _ (loadIfAlive ((a : Int).toNat) >>= _) _ _ _
  rw [Int.toNat_natCast]
  refine wpAny_bind (PySem.W.kdx_alive a4 ?_)
  simp only [Option.isNone_some, Bool.false_eq_true, if_false]
  refine wpAny_bind (wpAny_field e4 rfl (x := .bool f) rfl ?_)
  cases f with
  | true =>
    rw [if_neg (show ¬ ((Value.bool true != Value.bool true) = true) from Bool.false_ne_true)]
    refine wpAny_pure ?_
    simp only [Bool.false_eq_true, if_false]
    exact wpAny_pure (⟨_, rfl, wpAny_pure (hQ h4 true e4 it4 t4 z4 k4)⟩)
  | false =>
    rw [if_pos (show (Value.bool false != Value.bool true) = true from rfl)]
    refine wpAny_bind (wpAny_setField_rec e4 (by simp) fun h5 e5 sb5 => ?_)
    have sb5 : Heap.SameBut e h4 h5 := sb5
    refine wpAny_pure ?_
    simp only [Bool.false_eq_true, if_false]
    refine wpAny_pure (⟨_, rfl, wpAny_pure (hQ h5 true e5 (it4.extBut sb5.extBut (Ne.symm hne)) ?_ ?_ fun b o n1 n2 q => sb5.extBut b o n1 (k4 b o n1 n2 q))⟩)
    · exact sb5.extBut _ _ (Nat.ne_of_gt el) t4
    · rw [sb5.1, z4]
theorem en_item (he : EnS s.heap e it S i) (hS : S < s.heap.objs.size) (hit : s.heap.IsListIter it l i) (hl : s.heap.IsList l items) (hx : items[i]? = some x) (hne : e ≠ it)
    (hQ : ∀ h', EnS h' e it S (i + 1) → h'.IsListIter it l (i + 1) → h'.get? s.heap.objs.size = some { cls := .type "tuple", data := .seq #[.int i s.toks, x] } → h'.objs.size = s.heap.objs.size + 1 →
      (∀ b o, b ≠ e → b ≠ it → s.heap.get? b = some o → h'.get? b = some o) → Q (some (.ref s.heap.objs.size)) { s with heap := h', toks := s.toks + 1 }) :
    wpAny (model P w) A (pyNext (.ref e)) Q E s := by
  have up : ((i + 1 : Nat) : Int) = (i : Int) + 1 := by omega
  have il : it < s.heap.objs.size := by
    obtain ⟨o, q, _⟩ := hit
    exact Heap.lt_size q
  rcases he with ⟨old, q⟩ | ⟨a, f, old, o, q, qa, h1, h2, h3⟩
  · refine wpAny_pyNext_enum_item q hit hl hx hne fun h' o' it' t' z' k' => hQ h' (.inr ⟨s.heap.objs.size, false, x, _, ?_, t', Nat.ne_of_gt (Heap.lt_size q), Nat.ne_of_gt il, Nat.ne_of_gt hS⟩) it' t' z' k'
    rw [up]
    exact o'
  · refine en_out q qa h1 h2 hit hl hx hne fun h' f' o' it' t' z' k' => hQ h' (.inr ⟨a, f', old, o, ?_, k' a o h1 h2 qa, h1, h2, h3⟩) it' t' z' k'
    rw [up]
    exact o'
theorem en_end (hh : A.handled = none) (he : EnS s.heap e it S i) (hit : s.heap.IsListIter it l i) (hl : s.heap.IsList l items) (hx : items[i]? = none) (hQ : ∀ h', Heap.ExtBut it s.heap h' → Q none { s with heap := h' }) :
    wpAny (model P w) A (pyNext (.ref e)) Q E s := by
  rcases he with ⟨old, q⟩ | ⟨a, f, old, o, q, _⟩
  · exact wpAny_pyNext_enum_end hh q hit hl hx hQ
  · have ty : s.TypeIs (.ref e) "enumerate" := ⟨_, q, rfl⟩
    unfold pyNext
    refine wpAny_bind (wpAny_attempt (wpAny_callSpecial?_slot (name := Str.ofString "__next__") ty F.slot_enumerate_next (wpAny_call_entry F.slot_enumerate_next ty F.entry_enumerate_next ?_ (F.args_enumerate_next_1 _))))
    show wpAny _ _ (field (.ref e) 2 >>= _) _ _ _
    refine wpAny_bind (wpAny_field q rfl (x := .ref it) rfl ?_)
    refine wpAny_bind (wpAny_nextOf_list_end hh hit hl hx fun h' y he' hy => ?_)
    obtain ⟨oy, ho, hc⟩ := hy
    refine wpAny_bind (wpAny_isInstance (T := "StopIteration") (b := true) ⟨oy, ho, hc⟩ isSubtype_stop ?_)
    exact wpAny_pure (hQ _ he')
end
end EvX

namespace EvX
open PySem PySem.Spec PySem.Calls PyProof.Rows L2
theorem enum_no_len : typeLookup (.type "enumerate") "__len__" = pure none := by
  rw [typeLookup_type, builtinLookup_eq_fast]
  kernel_rfl
theorem enum_no_hint : typeLookup (.type "enumerate") "__length_hint__" = pure none := by
  rw [typeLookup_type, builtinLookup_eq_fast]
  kernel_rfl
/-- the pairs that were given out -/
structure Pairs (items : List Value) (lo : Addr) (h : Heap) (as : List Addr) : Prop where
  rise : as.Pairwise (· < ·)
  above : ∀ a ∈ as, lo < a
  pairs : ∀ (j : Nat) (a : Addr), as[j]? = some a → ∃ (t : Tok) (x : Value), items[j]? = some x ∧ h.get? a = some { cls := .type "tuple", data := .seq #[.int j t, x] }
theorem Pairs.past {items : List Value} {lo : Addr} {h : Heap} {as : List Addr} (g : Pairs items lo h as) {a : Addr} (ha : a ∈ as) : a < h.objs.size := by
  obtain ⟨j, hj⟩ := List.mem_iff_getElem?.mp ha
  obtain ⟨_, _, _, q⟩ := g.pairs j a hj
  exact Heap.lt_size q
section
variable {P : Program} {w : World} {A : Around} {s : Shared} {R : Result → Shared → Prop} {e it l S : Addr} {items : List Value} {res : Value}
theorem en_loop (hh : A.handled = none) (eS : e < S) (iS : it < S) (lS : l ≠ S) (ne : e ≠ it) (le : l ≠ e) (li : l ≠ it) (hn : items.length ≤ sizeLine) {h0 : Heap}
    (hR : ∀ h' tk acc c as, (∀ b o, b ≠ S → b ≠ e → b ≠ it → h0.get? b = some o → h'.get? b = some o) → h'.get? S = some { cls := .type "list", dict := none, data := .seq acc c, slots := #[] } → as.length = items.length → Pairs items S h' as →
      acc.toList = as.map Value.ref → R (.ok (.ret res)) { s with heap := h', toks := tk }) :
    ∀ (k i : Nat) (h : Heap) (tk c : Nat) (acc : Array Value) (as : List Addr), items.length - i = k → i ≤ items.length → EnS h e it S i → h.IsListIter it l i → h.IsList l items.toArray → (∀ b o, b ≠ S → b ≠ e → b ≠ it → h0.get? b = some o → h.get? b = some o) →
      h.get? S = some { cls := .type "list", dict := none, data := .seq acc c, slots := #[] } → acc.toList = as.map Value.ref → as.length = i → Pairs items S h as →
      codeAny (model P w) A (.builtin "list.extend.loop" ⟨[.ref S, .ref e, res], []⟩) R { s with heap := h, toks := tk } := by
  have nS : S ≠ e := Nat.ne_of_gt eS
  have nI : S ≠ it := Nat.ne_of_gt iS
  intro k
  induction k with
  | zero =>
    intro i h tk c acc as hk hi st sit sl keep hS hacc many G
    have full : i = items.length := by omega
    refine codeAny_builtin F.entry_extend_loop ?_
    rw [Around.under_plainId F.plain_extend_loop _]
    show wpAny _ A.in1 (pyNext (.ref e) >>= _) _ _ _
    refine wpAny_bind (en_end (s := { s with heap := h, toks := tk }) (A := A.in1) hh st sit sl (by simp; omega) fun h' he => ?_)
    refine wpAny_pure (hR h' tk acc c as (fun b o h1 h2 h3 q => he b o h3 (keep b o h1 h2 h3 q)) (he S _ nI hS) (by omega) ⟨G.rise, G.above, fun j a hj => ?_⟩ hacc)
    obtain ⟨t, x, q1, q2⟩ := G.pairs j a hj
    have up := G.above a (List.mem_of_getElem? hj)
    exact ⟨t, x, q1, he a _ (Nat.ne_of_gt (Nat.lt_trans iS up)) q2⟩
  | succ k ih =>
    intro i h tk c acc as hk hi st sit sl keep hS hacc many G
    have low : i < items.length := by omega
    obtain ⟨x, hx⟩ : ∃ x, items[i]? = some x := ⟨items[i], List.getElem?_eq_getElem low⟩
    have sz : acc.size = i := by rw [← Array.length_toList, hacc, List.length_map, many]
    have Sl : S < h.objs.size := Heap.lt_size hS
    refine codeAny_builtin F.entry_extend_loop ?_
    rw [Around.under_plainId F.plain_extend_loop _]
    show wpAny _ A.in1 (pyNext (.ref e) >>= _) _ _ _
    refine wpAny_bind (en_item (s := { s with heap := h, toks := tk }) (S := S) st Sl sit sl (x := x) (by simpa using hx) ne fun h' st' sit' ht hz kp => ?_)
    dsimp only at ht hz kp ⊢
    have hS' := kp S _ nS nI hS
    have sl' : h'.IsList l items.toArray := sl.at fun o q => kp l o le li q
    have up : ∀ b o, b ≠ S → h'.get? b = some o → (h'.update S (Obj.mapSeq (·.push (Value.ref h.objs.size)))).get? b = some o := fun b o hb q => (Heap.get?_update_other _ _ (Ne.symm hb)).trans q
    show wpAny _ A.in1 (updateSeq S (·.push (Value.ref h.objs.size)) >>= _) _ _ _
    refine wpAny_bind ?_
    refine wpAny_updateSeq hS' rfl (wpAny_pure ⟨plainId_quiet F.plain_extend_loop _, ?_⟩) (by rw [sz]; omega) (by show (acc.push (Value.ref h.objs.size)).size ≤ sizeLine + 1; rw [Array.size_push, sz]; omega)
    refine ih (i + 1) _ (tk + 1) _ (acc.push (Value.ref h.objs.size)) (as ++ [h.objs.size]) (by omega) low (st'.keep up (Ne.symm nS)) (sit'.at fun o q => up it o (Ne.symm nI) q) (sl'.at fun o q => up l o lS q)
      (fun b o h1 h2 h3 q => up b o h1 (kp b o h2 h3 (keep b o h1 h2 h3 q))) (Heap.get?_update_self _ hS' rfl) (by rw [Array.toList_push, hacc, List.map_append]; rfl) (by rw [List.length_append, many]; rfl) ⟨?_, ?_, ?_⟩
    · refine List.pairwise_append.mpr ⟨G.rise, List.pairwise_singleton _ _, fun a ha b hb => ?_⟩
      rw [List.mem_singleton.mp hb]
      exact G.past ha
    · intro a ha
      rcases List.mem_append.mp ha with ha | ha
      · exact G.above a ha
      · rw [List.mem_singleton.mp ha]
        exact Sl
    · intro j b hj
      by_cases h1 : j < as.length
      · rw [List.getElem?_append_left h1] at hj
        obtain ⟨t, y, q1, q2⟩ := G.pairs j b hj
        have ab := G.above b (List.mem_of_getElem? hj)
        exact ⟨t, y, q1, up b _ (Nat.ne_of_gt ab) (kp b _ (Nat.ne_of_gt (Nat.lt_trans eS ab)) (Nat.ne_of_gt (Nat.lt_trans iS ab)) q2)⟩
      · by_cases h2 : j = as.length
        · subst h2
          have hb : h.objs.size = b := by simpa using hj
          subst hb
          refine ⟨tk, x, by rw [many]; exact hx, ?_⟩
          rw [many]
          exact up _ _ (Nat.ne_of_gt Sl) ht
        · have gone : (as ++ [h.objs.size])[j]? = none := List.getElem?_eq_none (by rw [List.length_append, List.length_singleton]; omega)
          rw [gone] at hj
          cases hj
end
section
variable {P : Program} {w : World} {A : Around} {s : Shared} {R : Result → Shared → Prop} {e it l S : Addr} {items : List Value} {res : Value}
theorem en_extend (hh : A.handled = none) (eS : e < S) (iS : it < S) (lS : l ≠ S) (ne : e ≠ it) (le : l ≠ e) (li : l ≠ it) (hn : items.length ≤ sizeLine) (he : IsEnum s.heap e it 0 .none) (hit : s.heap.IsListIter it l 0) (hl : s.heap.IsList l items.toArray) (c0 : Nat) (hS : s.heap.get? S = some { cls := .type "list", data := .seq #[] c0 })
    (hR : ∀ h' tk acc c as, (∀ b o, b ≠ S → b ≠ e → b ≠ it → s.heap.get? b = some o → h'.get? b = some o) → h'.get? S = some { cls := .type "list", dict := none, data := .seq acc c, slots := #[] } → as.length = items.length → Pairs items S h' as →
      acc.toList = as.map Value.ref → R (.ok (.ret res)) { s with heap := h', toks := tk }) :
    wpAny (model P w) A.in1 (Builtin.List.listExtendWith (.ref S) (.ref e) res)
      (fun fin s' => match fin with | .done f => R (.ok f) s' | .again c' => c'.quiet = true ∧ codeAny (model P w) A c' R s') (fun e s' => R (.error e) s') s := by
  have ty : s.TypeIs (.ref e) "enumerate" := ⟨_, he, rfl⟩
  have nS : S ≠ e := Nat.ne_of_gt eS
  unfold Builtin.List.listExtendWith
  refine wpAny_bind (wpAny_typeOf ty ?_)
  have q1 : Builtin.List.listSameRef (.ref S) (.ref e) = false := by simp [Builtin.List.listSameRef, nS]
  have q2 : (Value.type "enumerate" == Value.type "list") = false := by decide
  have q3 : (Value.type "enumerate" == Value.type "tuple") = false := by decide
  simp only [q1, q2, q3, Bool.or_false, Bool.false_eq_true, if_false]
  refine wpAny_bind (wpAny_pyIter_enum he ?_)
  refine wpAny_bind (wpAny_holding ?_)
  unfold Builtin.List.listLengthHint
  refine wpAny_bind (wpAny_specialOf ty enum_no_len ?_)
  show wpAny _ A.in1 (specialOf (Value.ref e) (Str.ofString "__length_hint__") >>= _) _ _ _
  refine wpAny_bind (wpAny_specialOf ty enum_no_hint ?_)
  apply wpAny_pure
  show wpAny _ A.in1 (rule "list.extend.makes-room" >>= fun _ => Builtin.List.listTouch (.ref S) >>= fun _ => again (.builtin "list.extend.loop" ⟨[.ref S, .ref e, res], []⟩)) _ _ _
  refine wpAny_bind (wpAny_rule ?_)
  refine wpAny_bind ?_
  show wpAny _ A.in1 (updateSeq S (·.push .none) >>= fun _ => updateSeq S (·.pop)) _ _ _
  refine wpAny_bind (wpAny_updateSeq hS rfl ?_)
  have s2 := Heap.get?_update_self (Obj.mapSeq (·.push Value.none)) hS rfl
  refine wpAny_updateSeq (hz := by seq_fits) s2 rfl ?_
  have s3 := Heap.get?_update_self (Obj.mapSeq (·.pop)) s2 rfl
  have oth : ∀ b o, b ≠ S → s.heap.get? b = some o → ((s.heap.update S (Obj.mapSeq (·.push Value.none))).update S (Obj.mapSeq (·.pop))).get? b = some o := by
    intro b o hb q
    exact (Heap.get?_update_other _ _ (Ne.symm hb)).trans ((Heap.get?_update_other _ _ (Ne.symm hb)).trans q)
  refine wpAny_pure ⟨plainId_quiet F.plain_extend_loop _, ?_⟩
  exact en_loop (h0 := s.heap) hh eS iS lS ne le li hn hR items.length 0 _ s.toks _ #[] [] (Nat.sub_zero _) (Nat.zero_le _) (.inl ⟨.none, oth e _ (Ne.symm nS) he⟩) (hit.at fun o q => oth it o (Nat.ne_of_lt iS) q) (hl.at fun o q => oth l o lS q) (fun b o h1 _ _ q => oth b o h1 q) s3 rfl rfl
    ⟨List.Pairwise.nil, (fun _ ha => nomatch ha), fun j a hj => by simp at hj⟩
end
section
variable {P : Program} {w : World} {A : Around} {E : Value → Shared → Prop} {s : Shared} {e it l : Addr} {items : List Value} {Q : Value → Shared → Prop}
theorem en_list (hh : A.handled = none) (ne : e ≠ it) (le : l ≠ e) (li : l ≠ it) (hn : items.length ≤ sizeLine) (he : IsEnum s.heap e it 0 .none) (hit : s.heap.IsListIter it l 0) (hl : s.heap.IsList l items.toArray)
    (hQ : ∀ h' tk acc c as, (∀ b o, b ≠ e → b ≠ it → s.heap.get? b = some o → h'.get? b = some o) → h'.get? s.heap.objs.size = some { cls := .type "list", dict := none, data := .seq acc c, slots := #[] } → as.length = items.length → Pairs items s.heap.objs.size h' as →
      acc.toList = as.map Value.ref → Q (.ref s.heap.objs.size) { s with heap := h', toks := tk }) :
    wpAny (model P w) A (call (.type "list") [.ref e]) Q E s := by
  have el : e < s.heap.objs.size := Heap.lt_size he
  have il : it < s.heap.objs.size := by
    obtain ⟨o, q, _⟩ := hit
    exact Heap.lt_size q
  have ll : l < s.heap.objs.size := by
    obtain ⟨o, q, _⟩ := hl
    exact Heap.lt_size q
  refine callType_codes (Q₁ := fun obj s₁ => obj = .ref s.heap.objs.size ∧ s₁ = { s with heap := s.heap.push { cls := .type "list", data := .seq #[] } }) F.called_list (F.typeCall_list_1 _) F.entry_list_init (code_list_new _ ⟨rfl, rfl⟩) fun obj s₁ h₁ => ?_
  obtain ⟨rfl, rfl⟩ := h₁
  have hS : (s.heap.push { cls := .type "list", data := .seq #[] }).get? s.heap.objs.size = some { cls := .type "list", data := .seq #[] } := Heap.get?_push_size _ rfl
  refine ⟨⟨_, hS, rfl⟩, F.args_list_init_2 _ _, ?_⟩
  show wpAny _ _ (do let old ← Builtin.List.listItems (.ref s.heap.objs.size); Builtin.List.listUpdate (.ref s.heap.objs.size) (fun _ => #[]); letGo old.toList.reverse; Builtin.List.listExtendWith (.ref s.heap.objs.size) (.ref e) .none) _ _ _
  refine wpAny_bind ?_
  unfold Builtin.List.listItems
  refine wpAny_bind (wpAny_seqItems hS rfl (wpAny_pure ?_))
  show wpAny _ _ (updateSeq s.heap.objs.size (fun _ => #[]) >>= fun _ => letGo (#[] : Array Value).toList.reverse >>= fun _ => Builtin.List.listExtendWith (.ref s.heap.objs.size) (.ref e) .none) _ _ _
  refine wpAny_bind (wpAny_updateSeq hS rfl ?_)
  have s2 := Heap.get?_update_self (Obj.mapSeq (fun _ => (#[] : Array Value))) hS rfl
  have oth : ∀ b o, b ≠ s.heap.objs.size → s.heap.get? b = some o → ((s.heap.push { cls := .type "list", data := .seq #[] }).update s.heap.objs.size (Obj.mapSeq (fun _ => (#[] : Array Value)))).get? b = some o := by
    intro b o hb q
    exact (Heap.get?_update_other _ _ (Ne.symm hb)).trans (Heap.get?_push_of_some _ q)
  refine wpAny_bind (wpAny_letGo ?_)
  refine en_extend (A := A.in1) hh el il (Nat.ne_of_lt ll) ne le li hn (oth e _ (Nat.ne_of_lt el) he) (hit.at fun o q => oth it o (Nat.ne_of_lt il) q) (hl.at fun o q => oth l o (Nat.ne_of_lt ll) q) _ s2 ?_
  intro h' tk acc c as hk hS' hl' hG hacc
  exact ⟨rfl, hQ h' tk acc c as (fun b o h1 h2 q => hk b o (Nat.ne_of_lt (Heap.lt_size q)) h1 h2 (oth b o (Nat.ne_of_lt (Heap.lt_size q)) q)) hS' hl' hG hacc⟩
end
end EvX

namespace EvX
open PySem PySem.Spec PySem.Calls PyProof.Rows L2
/-- the list at S of the pairs at as -/
def layP (H : Hp) (S : Addr) (as : List Addr) (xs : List V) : Hp := fun b => if b = S then some (.lst (as.map V.ref)) else if b ∈ as then some (.tup [.int (as.idxOf b : Nat), xs.getD (as.idxOf b) .non]) else H b
section
variable {X : Cx} {pins : List (Addr × Obj)} {σ : L2.St} {H : Hp} {s : Shared} {h' : Heap} {S : Addr} {as : List Addr} {xs : List V} {items : List Value} {acc : Array Value} {c tk : Nat}
theorem vals_at {xs : List V} {us : List Value} (r : Vals xs us) : ∀ (j : Nat) (u : Value), us[j]? = some u → RelV (xs.getD j .non) u := by
  induction r with
  | nil =>
    intro j u h
    cases h
  | @cons x y xs us rx _ ih =>
    intro j u h
    cases j with
    | zero =>
      have e : y = u := by simpa using h
      subst e
      exact rx
    | succ j => exact ih j u (by simpa using h)
theorem pairs_laid (I : Inv X pins σ H s) (rv : Vals xs items) (hz : items.length ≤ sizeLine) (low : s.heap.objs.size ≤ S) (hk : ∀ b o, s.heap.get? b = some o → h'.get? b = some o) (hS : h'.get? S = some { cls := .type "list", dict := none, data := .seq acc c, slots := #[] })
    (hl : as.length = items.length) (G : Pairs items S h' as) (hacc : acc.toList = as.map Value.ref) :
    Ext H (layP H S as xs) ∧ (∀ (j : Nat) (t : Addr), as[j]? = some t → layP H S as xs t = some (.tup [.int (j : Nat), xs.getD j .non])) ∧ Inv X pins σ (layP H S as xs) { s with heap := h', toks := tk } := by
  have outS : S ∉ as := fun z => Nat.lt_irrefl _ (G.above _ z)
  have nd : as.Nodup := List.Pairwise.imp (fun {a b} (h : a < b) => Nat.ne_of_lt h) G.rise
  have newS : H S = none := I.hok.fresh low
  have newT : ∀ t ∈ as, H t = none := fun t ht => I.hok.fresh (Nat.le_trans low (Nat.le_of_lt (G.above t ht)))
  have atS : layP H S as xs S = some (.lst (as.map V.ref)) := if_pos rfl
  have atT : ∀ t ∈ as, layP H S as xs t = some (.tup [.int (as.idxOf t : Nat), xs.getD (as.idxOf t) .non]) := by
    intro t ht
    unfold layP
    have ne : t ≠ S := fun z => outS (by rw [← z]; exact ht)
    rw [if_neg ne, if_pos ht]
  have off : ∀ b, b ≠ S → b ∉ as → layP H S as xs b = H b := by
    intro b h1 h2
    unfold layP
    rw [if_neg h1, if_neg h2]
  have kp : Ext H (layP H S as xs) := by
    intro b u q
    rw [off b (ne_of_none q newS) fun z => by rw [newT b z] at q; cases q]
    exact q
  have past : ∀ b o, s.heap.get? b = some o → b ≠ S ∧ b ∉ as := by
    intro b o q
    have lt := Heap.lt_size q
    refine ⟨Nat.ne_of_lt (Nat.lt_of_lt_of_le lt low), fun z => ?_⟩
    exact absurd (Nat.lt_trans (Nat.lt_of_lt_of_le lt low) (G.above b z)) (Nat.lt_irrefl _)
  refine ⟨kp, fun j t hj => ?_, ?_⟩
  · have ht : t ∈ as := List.mem_of_getElem? hj
    have jl : j < as.length := by
      rcases Nat.lt_or_ge j as.length with z | z
      · exact z
      · rw [List.getElem?_eq_none z] at hj
        cases hj
    have e : as.idxOf t = j := by
      have il : as.idxOf t < as.length := List.idxOf_lt_length_of_mem ht
      refine (List.getElem?_inj il nd).mp ?_
      rw [List.getElem?_eq_getElem il, List.getElem_idxOf il, hj]
    rw [atT t ht, e]
  · refine I.call' (ch := []) rfl ⟨fun b o q _ _ _ => hk b o q, fun b o q _ _ _ => ⟨o.slots, hk b o q⟩, fun b o q n _ => ?_, fun b o q _ => ⟨o, hk b o q⟩, fun b xs q => kp b _ q, fun b o u q => kp b _ q, fun b ps q => ⟨#[], by rw [kp b _ q]; simp⟩⟩ (fun b u q => ?_) I.bare fun b z => by simp at z
    · obtain ⟨z1, z2⟩ := past b o q
      rw [off b z1 z2]
      exact n
    · by_cases hb : b ∈ as
      · rw [atT b hb] at q
        cases q
        have il : as.idxOf b < as.length := List.idxOf_lt_length_of_mem hb
        have hj : as[as.idxOf b]? = some b := by rw [List.getElem?_eq_getElem il, List.getElem_idxOf il]
        obtain ⟨t, x, f1, f2⟩ := G.pairs _ b hj
        refine ⟨by show 2 ≤ sizeLine; decide, [.int (as.idxOf b : Nat) t, x], .cons ⟨t, rfl⟩ (.cons (vals_at rv _ _ f1) .nil), ?_⟩
        exact ⟨_, f2, rfl, _, rfl⟩
      · by_cases hb2 : b = S
        · subst hb2
          rw [atS] at q
          cases q
          refine ⟨by rw [List.length_map, hl]; exact hz, acc.toList, c, ?_, ?_⟩
          · rw [hacc]
            exact LiI.vals_refs as
          · rw [Array.toArray_toList]
            exact hS
        · rw [off b hb2 hb] at q
          exact (I.hok b u q).stay (fun d v _ y => hk d v y) (fun d y => kp d _ y) fun d ys y => kp d _ y
end
def tLsEnum (K : PySem.W.Frag) (ta : TA) : TE := fun σ H Q => ta σ H fun vs H1 => ∃ l xs, vs = [.ref l] ∧ SqL K H1 l xs ∧
  ∀ (p : Addr) (ts : List Addr) (H' : Hp), Ext H1 H' → H' p = some (.lst (ts.map V.ref)) → ts.length = xs.length → (∀ (j : Nat) (t : Addr), ts[j]? = some t → H' t = some (.tup [.int (j : Nat), xs.getD j .non])) → Q (.ref p) H'
section
variable {X : Cx} {e : Expr} {ta : TA} {p p2 pos pos2 : Pos}
theorem pe_lsEnum (hc : X.calm = true) (ha : PA X [e] ta) (hg : Gl X "list") (hm : X.mg "list" = none) (hv : bootBuiltins "list" = some (.type "list")) (hg2 : Gl X "enumerate") (hm2 : X.mg "enumerate" = none)
    (hs : starEach [.Call (.Name "enumerate" p2) [e] [] pos2] X.env = (false, eval (.Call (.Name "enumerate" p2) [e] [] pos2) X.env) :: starEach [] X.env := by rfl) (hs2 : starEach [e] X.env = [(false, eval e X.env)] := by rfl) :
    PE X (.Call (.Name "list" p) [.Call (.Name "enumerate" p2) [e] [] pos2] [] pos) (tLsEnum X.K ta) := by
  constructor
  intro pins s σ H Q I h
  refine wpAny_Call_Name_kw (ld_blt I hg hm hv ?_)
  refine PyProof.Rows.callWith_type1 ?_ hs rfl
  rw [hs]
  show wpAny _ _ (spliced ((false, eval (.Call (.Name "enumerate" p2) [e] [] pos2) X.env) :: backTo pos (starEach [] X.env))) _ _ s
  refine Calls.spliced_cons ?_
  refine wpAny_Call_Name_kw (ld_blt I hg2 hm2 boot_enumerate (PyProof.Rows.callWith_type1 (thn (ha.run pos2 pins s σ H _ I h) ?_) hs2 rfl))
  rintro us s1 ⟨vs, H1, I1, r1, l, xs, rfl, hq, q⟩
  cases r1 with
  | cons r rr =>
    cases rr
    cases r
    obtain ⟨its, rv, p', hz⟩ := I1.list hq
    have ll : l < s1.heap.objs.size := by
      obtain ⟨o, z, _⟩ := p'.isList
      exact Heap.lt_size z
    refine call_enumerate_list p'.isList fun h1 he hit hsz hk => ?_
    refine Calls.spliced_nil ?_
    have li : h1.IsList l its.toArray := p'.isList.at fun o z => hk l o z
    have lk : its.length ≤ sizeLine := by
      rw [← rv.length]
      exact hz
    refine en_list (s := { s1 with heap := h1 }) (I1.ok.hd hc) (Nat.succ_ne_self _) (Nat.ne_of_lt (Nat.lt_succ_of_lt ll)) (Nat.ne_of_lt ll) lk he hit li ?_
    intro h2 tk acc c as hk2 hS hl hG hacc
    have sz2 : h1.objs.size = s1.heap.objs.size + 2 := hsz
    obtain ⟨k1, k2, J⟩ := pairs_laid (xs := xs) (tk := tk) I1 rv lk (S := h1.objs.size) (by omega) (fun b o z => hk2 b o (Nat.ne_of_lt (Nat.lt_succ_of_lt (Heap.lt_size z))) (Nat.ne_of_lt (Heap.lt_size z)) (hk b o z)) hS hl hG hacc
    exact ⟨.ref h1.objs.size, _, J, rfl, q h1.objs.size as _ k1 (if_pos rfl) (by rw [hl]; exact rv.length.symm) k2⟩
end
end EvX

/-! repr of data with dicts -/
namespace EvX
open PySem PySem.Spec PySem.Calls PyProof.Rows L2
section
variable {X : Cx}
def tLstX (t : TA) : TE := fun σ H Q => t σ H fun xs H1 => xs.length ≤ sizeLine ∧ ∀ p, H1 p = none → p ≠ sysModules → Q (.ref p) (upd H1 p (.lst xs))
theorem pe_lstX {es : List Expr} {t : TA} {pos : Pos} (h : PA X es t) : PE X (.List es pos) (tLstX t) := by
  constructor
  intro pins s σ H Q I hq
  refine wpAny_List_spliced (thn (h.run pos pins s σ H _ I hq) ?_)
  rintro us s1 ⟨xs, H1, I1, r, z, q⟩
  refine ⟨by rw [← r.length]; exact z, ?_⟩
  have J := I1.laid (t' := s1.toks) (a := s1.heap.objs.size) (o := .lst xs) (fun b u e => Heap.get?_push_of_some { cls := .type "list", data := .seq us.toArray } e) (Nat.le_refl _) ⟨z, us, 0, r, Heap.get?_push_size _ rfl⟩
  exact ⟨.ref s1.heap.objs.size, _, J, rfl, q _ (I1.hok.fresh (Nat.le_refl _)) (Nat.ne_of_gt I1.big)⟩
/-- a list of one thing, times none or one -/
def rRepX : R2 := fun x y H Q => ∃ l k v, x = .ref l ∧ y = .int k ∧ H l = some (.lst [v]) ∧ 0 ≤ k ∧ k ≤ 1 ∧ ∀ p, H p = none → p ≠ sysModules → Q (.ref p) (upd H p (.lst (List.replicate k.toNat v)))
theorem op_repX : OpR X (binaryOp .Mult) rRepX := by
  intro pins s σ H x y v u Q I rx ry h
  obtain ⟨l, k, c, rfl, rfl, hH, k0, k1, q⟩ := h
  cases rx
  obtain ⟨t, rfl⟩ := ry
  obtain ⟨z, its, n, r, hl, e⟩ := I.lstM hH
  obtain ⟨i, rfl, ri⟩ : ∃ i, its = [i] ∧ RelV c i := by
    cases r with
    | cons r1 r2 =>
      cases r2
      exact ⟨_, rfl, r1⟩
  have low : k.toNat ≤ 1 := by omega
  have f1 : ¬ [i].toArray.size * k.toNat > (2 ^ 63 - 1) / 8 := by
    show ¬ 1 * k.toNat > (2 ^ 63 - 1) / 8
    omega
  have f2 : ¬ (!Builtin.List.listFitsIndex k) = true := by
    rw [fitsIndex_both (by omega) (by omega)]
    decide
  have f3 : ¬ Builtin.List.listTooLong ([i].toArray.size * k.toNat) = true := by
    rw [notLongL (show [i].toArray.size * k.toNat ≤ sizeLine from Nat.le_trans (show 1 * k.toNat ≤ 1 by omega) (by decide))]
    decide
  have made : List.foldl (fun x1 x2 => x1 ++ x2) #[] (List.replicate (if [i].toArray.isEmpty = true then 0 else k.toNat) [i].toArray) = (List.replicate k.toNat i).toArray := by
    rcases (show k.toNat = 0 ∨ k.toNat = 1 by omega) with z | z <;> rw [z] <;> rfl
  have rr : Vals (List.replicate k.toNat c) (List.replicate k.toNat i) := by
    rcases (show k.toNat = 0 ∨ k.toNat = 1 by omega) with z | z <;> rw [z]
    · exact .nil
    · exact .cons ri .nil
  refine wpAny_binaryOp_repeat_ref (T := "list") (U := "int") (by decide) ⟨_, e, rfl⟩ (fun s' => typeIs_int s' k t) noFill_list_mul F.fills_int_mul F.slot_int_rmul repeat_list F.slot_int_index.lookup ?_
  refine call_meets F.slot_int_rmul (typeIs_int s k t) F.entry_int_rmul (F.args_int_rmul_2 _ _) (int___rmul___int_list k t l [i].toArray n) ⟨e, rfl, ⟨_, e, rfl⟩, ?_⟩
  refine call_meets F.slot_list_mul ⟨_, e, rfl⟩ F.entry_list_mul (F.args_list_mul_2 _ _) (AutoListH.list___mul___list_int_3 l [i].toArray n k t f2 f1 f3) ⟨e, ?_⟩
  rw [made]
  exact ⟨.ref _, _, I.lnew (t' := s.toks) rr (by rw [List.length_replicate]; exact Nat.le_trans low (by decide)), rfl, q _ I.fresh (Nat.ne_of_gt I.big)⟩
end
/-- the data that a value tells, dicts among them -/
def kD : Key → PyData
  | .inl i => .int i
  | .inr x => .str x
mutual
inductive Dx (H : Hp) : V → PyData → Prop
  | non : Dx H .non .none
  | bl (b : Bool) : Dx H (.bl b) (.bool b)
  | int (i : Int) : Dx H (.int i) (.int i)
  | str (x : Str) : Dx H (.str x) (.str x)
  | lst {a : Addr} {xs : List V} {ds : List PyData} : H a = some (.lst xs) → a ≠ sysModules → DxAll H xs ds → Dx H (.ref a) (.list ds)
  | tup {a : Addr} {xs : List V} {ds : List PyData} : H a = some (.tup xs) → DxAll H xs ds → Dx H (.ref a) (.tuple ds)
  | dct {a : Addr} {kvs : List (Key × V)} {ds : List (PyData × PyData)} : H a = some (.dK kvs) → ds.map (·.1) = kvs.map (fun p => kD p.1) → DxAll H (kvs.map (·.2)) (ds.map (·.2)) → Dx H (.ref a) (.dict ds)
inductive DxAll (H : Hp) : List V → List PyData → Prop
  | nil : DxAll H [] []
  | cons {v : V} {vs : List V} {d : PyData} {ds : List PyData} : Dx H v d → DxAll H vs ds → DxAll H (v :: vs) (d :: ds)
end
mutual
theorem Dx.ext {H H' : Hp} (e : Ext H H') : ∀ {v : V} {d : PyData}, Dx H v d → Dx H' v d
  | _, _, .non => .non
  | _, _, .bl b => .bl b
  | _, _, .int i => .int i
  | _, _, .str x => .str x
  | _, _, .lst h n a => .lst (e _ _ h) n (DxAll.ext e a)
  | _, _, .tup h a => .tup (e _ _ h) (DxAll.ext e a)
  | _, _, .dct h k a => .dct (e _ _ h) k (DxAll.ext e a)
theorem DxAll.ext {H H' : Hp} (e : Ext H H') : ∀ {vs : List V} {ds : List PyData}, DxAll H vs ds → DxAll H' vs ds
  | _, _, .nil => .nil
  | _, _, .cons h a => .cons (Dx.ext e h) (DxAll.ext e a)
end
theorem readsKeys {P : Program} {w : World} {h : Heap} {es : List DictEntry} {vs : List (Key × Value)} (p : PySem.Pairs (mixKind P w) es vs) : ReadsAll h (es.map (·.key)) (vs.map fun q => kD q.1) [] ∧ es.map (·.val) = vs.map (·.2) := by
  induction p with
  | nil => exact ⟨.nil, rfl⟩
  | @cons e kv es kvs hk hv _ ih =>
    obtain ⟨h1, h2⟩ := ih
    refine ⟨?_, by rw [List.map_cons, List.map_cons, h2, hv]⟩
    have one : Reads h e.key (kD kv.1) [] := by
      rcases keyIs_shape (show keyIs kv.1 e.key = true from hk) with ⟨i, t, z1, z2⟩ | ⟨x, t, z1, z2⟩
      · rw [z1, z2]
        exact .int i t
      · rw [z1, z2]
        exact .str x t
    exact ReadsAll.cons one h1
section
variable {X : Cx} {pins : List (Addr × Obj)} {σ : L2.St} {H : Hp} {s : Shared}
theorem kv_vals : ∀ {kvs : List (Key × V)} {vs : List (Key × Value)}, KV kvs vs → Vals (kvs.map (·.2)) (vs.map (·.2)) ∧ (kvs.map fun p => kD p.1) = vs.map fun q => kD q.1
  | [], [], .nil => ⟨.nil, rfl⟩
  | p :: kvs, q :: vs, .cons h t => by
    obtain ⟨h1, h2⟩ := kv_vals t
    exact ⟨.cons h.2 h1, by rw [List.map_cons, List.map_cons, h2, h.1]⟩
mutual
theorem Dx.reads (I : Inv X pins σ H s) : ∀ (d : PyData) (v : V) (u : Value), Dx H v d → RelV v u → ∃ as, Reads s.heap u d as ∧ sysModules ∉ as
  | .none, _, _, h, r => by
    cases h
    cases r
    exact ⟨[], Reads.none, by simp⟩
  | .bool b, _, _, h, r => by
    cases h
    cases r
    exact ⟨[], Reads.bool b, by simp⟩
  | .int i, _, _, h, r => by
    cases h
    obtain ⟨t, rfl⟩ := r
    exact ⟨[], Reads.int i t, by simp⟩
  | .str x, _, _, h, r => by
    cases h
    obtain ⟨t, rfl⟩ := r
    exact ⟨[], Reads.str x t, by simp⟩
  | .list ds, _, _, h, r => by
    cases h with
    | lst hs n ha =>
      cases r
      obtain ⟨z, its, m, rv, _, e⟩ := I.lstM hs
      obtain ⟨as, hr, o⟩ := Dx.readsAll I ds _ its ha rv
      exact ⟨_, Reads.list e rfl rfl hr, by simp [o, Ne.symm n]⟩
  | .tuple ds, _, _, h, r => by
    cases h with
    | tup hs ha =>
      cases r
      obtain ⟨z, its, rv, ⟨o, ho, hc, m, hd⟩⟩ := (show ObjOk X.prog X.w H s.heap _ (.tup _) from I.hok _ _ hs)
      obtain ⟨as, hr, q⟩ := Dx.readsAll I ds _ its ha rv
      exact ⟨_, Reads.tuple ho hc hd hr, q⟩
  | .dict ds, _, _, h, r => by
    cases h with
    | dct hs hk ha =>
      cases r
      obtain ⟨z, hsys, vs, kv, ⟨o, es, ep, ho, hx, hd, _, hp, _⟩⟩ := (show ObjOk X.prog X.w H s.heap _ (.dK _) from I.hok _ _ hs)
      obtain ⟨v1, v2⟩ := kv_vals kv
      obtain ⟨k1, k2⟩ := readsKeys (h := s.heap) hp
      obtain ⟨as, hr, q⟩ := Dx.readsAllP I ds _ _ ha v1
      have ks : ReadsAll s.heap (es.toList.map (·.key)) (ds.map (·.1)) [] := by
        rw [hk, v2]
        exact k1
      have vals : ReadsAll s.heap (es.toList.map (·.val)) (ds.map (·.2)) as := by
        rw [k2]
        exact hr
      refine ⟨_, Reads.dict ho hx.1 hd ks vals, ?_⟩
      have ne := beq_eq_false_iff_ne.mp hsys
      simp [q, Ne.symm ne]
theorem Dx.readsAll (I : Inv X pins σ H s) : ∀ (ds : List PyData) (vs : List V) (us : List Value), DxAll H vs ds → Vals vs us → ∃ as, ReadsAll s.heap us ds as ∧ sysModules ∉ as
  | [], _, _, h, r => by
    cases h
    cases r
    exact ⟨_, ReadsAll.nil, by simp⟩
  | d :: ds, _, _, h, r => by
    cases h with
    | cons h1 h2 =>
      cases r with
      | cons r1 r2 =>
        obtain ⟨as, q1, o1⟩ := Dx.reads I d _ _ h1 r1
        obtain ⟨bs, q2, o2⟩ := Dx.readsAll I ds _ _ h2 r2
        exact ⟨_, ReadsAll.cons q1 q2, by simp [o1, o2]⟩
theorem Dx.readsAllP (I : Inv X pins σ H s) : ∀ (ds : List (PyData × PyData)) (vs : List V) (us : List Value), DxAll H vs (ds.map (·.2)) → Vals vs us → ∃ as, ReadsAll s.heap us (ds.map (·.2)) as ∧ sysModules ∉ as
  | [], _, _, h, r => by
    cases h
    cases r
    exact ⟨_, ReadsAll.nil, by simp⟩
  | d :: ds, _, _, h, r => by
    cases h with
    | cons h1 h2 =>
      cases r with
      | cons r1 r2 =>
        obtain ⟨as, q1, o1⟩ := Dx.reads I d.2 _ _ h1 r1
        obtain ⟨bs, q2, o2⟩ := Dx.readsAllP I ds _ _ h2 r2
        exact ⟨_, ReadsAll.cons q1 q2, by simp [o1, o2]⟩
end
def rReprX : List V → Hp → VK → Prop := fun xs H Q => ∃ (a : Addr) (d : PyData), xs = [.ref a] ∧ Dx H (.ref a) d ∧ d.showable = true ∧ d.depth ≤ 40 ∧ d.shown.length ≤ sizeLine ∧ Q (.str d.shown) H
theorem call_reprX (g : X.A.guards = some []) (hu : X.A.units + 64 < cLine) : CallR X (.builtin "repr") rReprX := by
  intro pins s σ H xs us Q I r h
  obtain ⟨a, d, rfl, hd, sh, dep, sz, q⟩ := h
  cases r with
  | cons r1 r2 =>
    cases r2
    obtain ⟨as, rd, out⟩ := Dx.reads I d _ _ hd r1
    cases r1
    exact repr_of_reads' rd sh (fun _ => out) g (by omega) (fun _ _ e => e) (fun h' u tk k => ⟨.str d.shown, H, I.kept k, ⟨_, rfl⟩, q⟩) sz
end
end EvX

/-! The errors of this program: their classes by numbers. -/
namespace EvX
open PySem PySem.Spec PySem.Calls PyProof.Rows L2 EvG
def nm (i : Nat) : Str := (["InvalidVector", "InvalidBook", "InvalidPart", "InvalidNet", "InvalidCourse", "InvalidWeighting", "InvalidDeed", "InvalidItem", "InvalidCosts", "InvalidCount", "NotComparable", "InvalidText", "UnknownCommand", "UnknownName", "NoItem", "TooMany", "NothingToUndo", "NetError", "MissingError"] : List Str).getD i ""
/-- the fields, in the order of the parameters -/
def fld (i : Nat) : List Str := ([[], ["reason"], ["reason"], ["reason", "name"], ["reason"], ["reason"], ["reason"], ["index"], ["name"], ["name"], ["reason"], ["line", "word"], ["word"], ["name"], ["number"], ["limit"], ["count"], [], []] : List (List Str)).getD i []
def FF (ns : List Str) (ys : List V) : List (Str × V) := (ns.zip ys).reverse
def tVE : List Value := [.type "ValueError", .type "Exception", .type "BaseException", .type "object"]
def tLE : List Value := [.type "LookupError", .type "Exception", .type "BaseException", .type "object"]
def tOE : List Value := [.type "OverflowError", .type "ArithmeticError", .type "Exception", .type "BaseException", .type "object"]
def tIE : List Value := [.type "IndexError", .type "LookupError", .type "Exception", .type "BaseException", .type "object"]
/-- what a class stands over -/
def over (c : Nat → Addr) (i : Nat) : List Value := if i < 13 then .ref (c 17) :: tVE else if i < 15 then .ref (c 18) :: tLE else if i = 15 then tOE else if i = 16 then tIE else if i = 17 then tVE else tLE
def gK {α : Type} (n : Nat) (us ws : List α) : List α := if us.length = 1 ∧ ws.length = n then us ++ ws.reverse else []
structure Lay (P : Program) (w : World) (K : PySem.W.Frag) (mg : Str → Option Value) (base : Heap) (c : Nat → Addr) : Prop where
  inj : ∀ i j, i < 19 → j < 19 → c i = c j → i = j
  glob : ∀ i, i < 19 → mg (nm i) = some (.ref (c i))
  ask : ∀ i, i < 19 → AskC K (c i)
  cls : ∀ i, i < 19 → ∃ cd, PySem.W.clsIn K (c i) = some cd ∧ cd.mro = .ref (c i) :: over c i
  ty : ∀ i, i < 19 → PySem.W.typeIn K (.ref (c i)) = some (.type "type")
  no : ∀ i, i < 19 → ∀ f ∈ fld i, PySem.W.findIn K (.ref (c i)) f = some none
  bare : ∀ i, i = 0 ∨ i = 17 ∨ i = 18 → ∃ B newId initId bmB, ExcBaseFacts B newId initId bmB ∧ PySem.W.excIn K (c i) bmB newId = true
  init : ∀ i, 1 ≤ i → i ≤ 16 → ∃ (fI : Addr) (fd : FuncData) (B newId initId : String) (bmB : List Value), ErrC K (c i) B newId initId bmB ∧ PySem.W.findIn K (.ref (c i)) "__init__" = some (some (.ref fI)) ∧ PySem.W.typeIn K (.ref fI) = some (.type "function") ∧
    FnOk P w K mg base CX0 1 fI fd ("self" :: fld i) (spI (c i) (fld i).length (FF (fld i))) ∧ KBinds K fd ("self" :: fld i) [] (fun us _ => us) (fun vs _ => vs) ∧ KBinds K fd ("self" :: fld i) (fld i).reverse (gK (fld i).length) (gK (fld i).length)
/-- a new error of the class at C with these fields -/
def tNewE (C : Addr) (ns : List Str) (rev : Bool) (ta : TA) : TE := fun σ H Q => ta σ H fun vs H1 => vs.length = ns.length ∧ ∀ a H2, H1 a = none → Ext H1 H2 → IsE C (FF ns (if rev then vs.reverse else vs)) a H2 → Q (.ref a) H2
theorem fld_len (i : Nat) : (fld i).length ≤ 2 := by
  by_cases h : i < 19
  · have : ∀ j < 19, (fld j).length ≤ 2 := by decide
    exact this i h
  · have e : fld i = [] := by
      unfold fld
      rw [List.getD_eq_getElem?_getD, List.getElem?_eq_none (by show 19 ≤ i; omega)]
      rfl
    rw [e]
    decide
section
variable {X : Cx} {c : Nat → Addr} {x : Str} {p pos : Pos} {e : Expr} {es : List Expr} {kws : List Keyword} {ta tk : TA} {ks : List Str}
theorem laid_new {C : Addr} {n : Nat} {F : List V → List (Str × V)} {H2 : Hp} {Q : VK} {us ys : List V} {a : Addr} (e : us = .ref a :: ys) (hl : ys.length = n)
    (q : ∀ a H3, H2 a = none → Ext H2 H3 → IsE C (F ys) a H3 → Q (.ref a) H3) (ha : H2 a = none) : spI C n F us (upd H2 a (exo a C none)) (fun v H3 => v = .non ∧ Q (.ref a) H3) (fun _ _ _ => False) := by
  refine ⟨a, ys, e, hl, upd_same, fun H' L => ?_⟩
  obtain ⟨h1, h2⟩ := L.isE ha
  exact ⟨rfl, q a H' ha h2 h1⟩
theorem pe_new (L : Lay X.prog X.w X.K X.mg X.base c) (i : Nat) (h1 : 1 ≤ i) (h2 : i ≤ 16) (hx : x = nm i) (hr : Room 2 X.A) (hg : Gl X x) (ha : PA X (e :: es) ta)
    (hdb : (x == ("__debug__" : Str)) = false := by decide) (he : starEach (e :: es) X.env = (false, eval e X.env) :: starEach es X.env := by rfl) (hpl : (backTo pos (starEach es X.env)).any (·.1) = false := by rfl) :
    PE X (.Call (.Name x p) (e :: es) [] pos) (tNewE (c i) (fld i) false ta) := by
  obtain ⟨fI, fd, B, newId, initId, bmB, T, iC, tI, F, kb, _⟩ := L.init i h1 h2
  have hm : X.mg x = some (.ref (c i)) := by
    rw [hx]
    exact L.glob i (by omega)
  constructor
  intro pins s σ H Q I h
  apply wpAny_Call_Name_kw
  refine ld_glob I hg hm ?_ hdb
  refine PySem.W.callWith_K (h₀ := X.base) I.ok.mod.kin T.ask.keep (thn (ha.run pos pins s σ H _ I h) ?_) he hpl
  rintro us s1 ⟨vs, H1, I1, r, hl, q⟩
  have fl := fld_len i
  exact ⟨I1.kIn, run_err (ws := []) (zs := []) T iC tI F hr kb pass0 I1 r .nil (by omega) fun a ha => laid_new rfl hl q ha⟩
theorem pe_newK (L : Lay X.prog X.w X.K X.mg X.base c) (i : Nat) (h1 : 1 ≤ i) (h2 : i ≤ 16) (hx : x = nm i) (hr : Room 2 X.A) (hg : Gl X x) (hkw : PK X kws tk)
    (hall : (backToKw pos (keywordEach kws X.env)).all (·.1.isSome) = true := by rfl) (hks : (backToKw pos (keywordEach kws X.env)).filterMap (·.1) = (fld i).reverse := by rfl)
    (hdb : (x == ("__debug__" : Str)) = false := by decide) (hpl : ((backTo pos (starEach [] X.env)).any (·.1) || (backToKw pos (keywordEach kws X.env)).any (·.1.isNone)) = false := by rfl) :
    PE X (.Call (.Name x p) [] kws pos) (tNewE (c i) (fld i) true tk) := by
  obtain ⟨fI, fd, B, newId, initId, bmB, T, iC, tI, F, _, kb⟩ := L.init i h1 h2
  have hm : X.mg x = some (.ref (c i)) := by
    rw [hx]
    exact L.glob i (by omega)
  constructor
  intro pins s σ H Q I h
  apply wpAny_Call_Name_kw
  refine ld_glob I hg hm ?_ hdb
  refine PySem.W.callWith_KW0 (h₀ := X.base) I.ok.mod.kin T.ask.keep hall ?_ hpl
  refine thn (hkw.run pos pins s σ H _ I h) ?_
  rintro ws s2 ⟨zs, H2, I2, rz, hl, q⟩
  refine ⟨I2.kIn, ?_⟩
  rw [hks]
  refine run_err (us := []) (vs := []) T iC tI F hr kb pass0 I2 .nil rz (Nat.zero_le _) fun a ha => laid_new (ys := zs.reverse) ?_ ?_ q ha
  · unfold gK
    rw [if_pos ⟨rfl, hl⟩]
    rfl
  · rw [List.length_reverse]
    exact hl
theorem pe_newB (L : Lay X.prog X.w X.K X.mg X.base c) (i : Nat) (hi : i = 0 ∨ i = 17 ∨ i = 18) (hx : x = nm i) (hg : Gl X x)
    (hall : (backToKw pos (keywordEach [] X.env)).all (·.1.isSome) = true := by rfl) (hks : (backToKw pos (keywordEach [] X.env)).filterMap (·.1) = [] := by rfl)
    (hdb : (x == ("__debug__" : Str)) = false := by decide) (hpl : ((backTo pos (starEach [] X.env)).any (·.1) || (backToKw pos (keywordEach [] X.env)).any (·.1.isNone)) = false := by rfl) :
    PE X (.Call (.Name x p) [] [] pos) (tNewE (c i) (fld i) false tNil) := by
  obtain ⟨B, newId, initId, bmB, F, q0⟩ := L.bare i hi
  have lt : i < 19 := by omega
  have hm : X.mg x = some (.ref (c i)) := by
    rw [hx]
    exact L.glob i lt
  constructor
  intro pins s σ H Q I h
  refine (pe_mk0 (X := X) F q0 (L.ask i lt).keep hg hm hall hks hdb hpl).run pins s σ H Q I ?_
  intro a ha
  have em : fld i = [] := by rcases hi with rfl | rfl | rfl <;> rfl
  rw [em] at h
  obtain ⟨_, q⟩ := (show ([] : List V).length = ([] : List Str).length ∧ _ from h)
  exact q a _ ha (ext_new ha) ⟨none, upd_same, rfl⟩
/-- which class an error is of -/
theorem kit_own {P : Program} {w : World} {K : PySem.W.Frag} {mg : Str → Option Value} {base : Heap} (L : Lay P w K mg base c) {i j : Nat} (hi : i < 19) (hj : j < 17) : PySem.W.kitOne K (.ref (c i)) (.ref (c j)) = some (decide (i = j)) := by
  obtain ⟨cd, h1, h2⟩ := L.cls i hi
  obtain ⟨cj, h3, _⟩ := L.cls j (by omega)
  unfold PySem.W.kitOne
  by_cases e : i = j
  · subst e
    rw [if_pos (by simp), decide_eq_true rfl]
  · have ne : c i ≠ c j := fun z => e (L.inj i j hi (by omega) z)
    have n1 : c 17 ≠ c j := fun z => by
      have := L.inj 17 j (by omega) (by omega) z
      omega
    have n2 : c 18 ≠ c j := fun z => by
      have := L.inj 18 j (by omega) (by omega) z
      omega
    rw [if_neg (by simp [ne]), decide_eq_false e]
    have ov : (over c i).contains (.ref (c j)) = false := by
      unfold over
      repeat' split
      all_goals simp [tVE, tLE, tOE, tIE, Ne.symm n1, Ne.symm n2]
    show (if ((PySem.W.clsIn K (c j)).isSome && PySem.W.typeIn K (.ref (c j)) == some (.type "type")) = true then PySem.W.subIn K (.ref (c i)) (.ref (c j)) else none) = _
    rw [h3, L.ty j (by omega), if_pos (by simp)]
    show (PySem.W.clsIn K (c i)).bind _ = _
    rw [h1, Option.bind_some, h2]
    show some ((Value.ref (c i) :: over c i).contains (.ref (c j))) = _
    rw [List.contains_cons, ov]
    simp [Ne.symm ne]
/-- the base classes of this program -/
theorem kit_base {P : Program} {w : World} {K : PySem.W.Frag} {mg : Str → Option Value} {base : Heap} (L : Lay P w K mg base c) {i j : Nat} (hi : i < 17) (hj : j = 17 ∨ j = 18) : PySem.W.kitOne K (.ref (c i)) (.ref (c j)) = some ((over c i).contains (.ref (c j))) := by
  obtain ⟨cd, h1, h2⟩ := L.cls i (by omega)
  have lj : j < 19 := by omega
  obtain ⟨cj, h3, _⟩ := L.cls j lj
  have ne : c i ≠ c j := fun z => by
    have := L.inj i j (by omega) lj z
    omega
  unfold PySem.W.kitOne
  rw [if_neg (by simp [ne])]
  show (if ((PySem.W.clsIn K (c j)).isSome && PySem.W.typeIn K (.ref (c j)) == some (.type "type")) = true then PySem.W.subIn K (.ref (c i)) (.ref (c j)) else none) = _
  rw [h3, L.ty j lj, if_pos (by simp)]
  show (PySem.W.clsIn K (c i)).bind _ = _
  rw [h1, Option.bind_some, h2]
  show some ((Value.ref (c i) :: over c i).contains (.ref (c j))) = _
  rw [List.contains_cons]
  simp [Ne.symm ne]
theorem kit_type {P : Program} {w : World} {K : PySem.W.Frag} {mg : Str → Option Value} {base : Heap} (L : Lay P w K mg base c) {i : Nat} {T : String} (hi : i < 19) (hT : PySem.W.kitMeta T = true) : PySem.W.kitOne K (.ref (c i)) (.type T) = some ((over c i).contains (.type T)) := by
  obtain ⟨cd, h1, h2⟩ := L.cls i hi
  unfold PySem.W.kitOne
  rw [if_neg (by simp)]
  show (if PySem.W.kitMeta T = true then PySem.W.subIn K (.ref (c i)) (.type T) else none) = _
  rw [if_pos hT]
  show (PySem.W.clsIn K (c i)).bind _ = _
  rw [h1, Option.bind_some, h2]
  show some ((Value.ref (c i) :: over c i).contains (.type T)) = _
  rw [List.contains_cons]
  rfl
end
end EvX

/-! steps -/
namespace EvX
open PySem PySem.Spec PySem.Calls PyProof.Rows L2 EvG
section
variable {σ : L2.St} {H : Hp} {Q : VK} {K : PySem.W.Frag} {te to : TE} {ta : TA} {C : Addr} {ns : List Str} {rev : Bool} {D : Ends} {c : Nat → Addr}
theorem g_newE (h : ta σ H fun vs H1 => vs.length = ns.length ∧ ∀ a H2, H1 a = none → Same H1 H2 → IsE C (FF ns (if rev then vs.reverse else vs)) a H2 → Q (.ref a) H2) : tNewE C ns rev ta σ H Q := h
theorem g_lstX (h : ta σ H fun xs H1 => xs.length ≤ sizeLine ∧ ∀ p, H1 p = none → p ≠ sysModules → Q (.ref p) (upd H1 p (.lst xs))) : tLstX ta σ H Q := h
theorem g_fld {f : Str} (h : te σ H fun x H1 => ∃ (a C : Addr) (fs : List (Str × V)) (v : V), x = .ref a ∧ AskC K C ∧ PySem.W.findIn K (.ref C) f = some none ∧ IsE C fs a H1 ∧ fs.lookup f = some v ∧ Q v H1) : tFld K f te σ H Q := h
theorem g_put {f : Str} (h : te σ H fun y H1 => to σ H1 fun x H2 => ∃ a C : Addr, x = .ref a ∧ (∃ B n i bm, ErrC K C B n i bm) ∧ PySem.W.takerIn K C f = some none ∧
  ((H2 a = some (exo a C none) ∧ ∀ H', LaidE H2 a C [(f, y)] H' → D.nx σ H') ∨ ∃ (H0 : Hp) (fs : List (Str × V)), LaidE H0 a C fs H2 ∧ fs.length ≤ 900 ∧ ∀ H', LaidE H0 a C ((f, y) :: fs) H' → D.nx σ H')) : tPut K f to te D σ H := h
theorem g_ls (h : ta σ H fun vs H1 => ∃ l xs, vs = [.ref l] ∧ SqL K H1 l xs ∧ ∀ (p : Addr) (ts : List Addr) (H' : Hp), Same H1 H' → H' p = some (.lst (ts.map V.ref)) → ts.length = xs.length → (∀ (j : Nat) (t : Addr), ts[j]? = some t → H' t = some (.tup [.int (j : Nat), xs.getD j .non])) → Q (.ref p) H') : tLsEnum K ta σ H Q := h
theorem g_askE {P : Program} {w : World} {mg : Str → Option Value} {base : Heap} {a : Addr} {fs : List (Str × V)} {i j : Nat} (L : Lay P w K mg base c) (hi : i < 19) (hj : j < 17) (x : IsE (c i) fs a H) (q : Q (.bl (decide (i = j))) H) : rAskE K [.ref a, .ref (c j)] H Q :=
  ⟨a, c i, fs, .ref (c j), .ref (c j), _, rfl, fun u r => r, L.ask i hi, x, kit_own L hi hj, q⟩
theorem over17 {P : Program} {w : World} {mg : Str → Option Value} {base : Heap} (L : Lay P w K mg base c) {i : Nat} (hi : i < 17) : (over c i).contains (.ref (c 17)) = decide (i < 13) := by
  have n : c 18 ≠ c 17 := fun z => by
    have := L.inj 18 17 (by omega) (by omega) z
    omega
  by_cases h : i < 13
  · rw [decide_eq_true h]
    unfold over
    rw [if_pos h]
    simp
  · rw [decide_eq_false h]
    unfold over
    rw [if_neg h]
    repeat' split
    all_goals simp [tVE, tLE, tOE, tIE, Ne.symm n, n]
theorem over18 {P : Program} {w : World} {mg : Str → Option Value} {base : Heap} (L : Lay P w K mg base c) {i : Nat} (hi : i < 17) : (over c i).contains (.ref (c 18)) = decide (i = 13 ∨ i = 14) := by
  have n : c 17 ≠ c 18 := fun z => by
    have := L.inj 17 18 (by omega) (by omega) z
    omega
  by_cases h : i = 13 ∨ i = 14
  · rw [decide_eq_true h]
    unfold over
    rw [if_neg (by omega), if_pos (by omega)]
    simp
  · rw [decide_eq_false h]
    unfold over
    repeat' split
    all_goals first
      | (exfalso; omega)
      | simp [tVE, tLE, tOE, tIE, Ne.symm n, n]
theorem g_askN {P : Program} {w : World} {mg : Str → Option Value} {base : Heap} {a : Addr} {fs : List (Str × V)} {i : Nat} (L : Lay P w K mg base c) (hi : i < 17) (x : IsE (c i) fs a H) (q : Q (.bl (decide (i < 13))) H) : rAskE K [.ref a, .ref (c 17)] H Q :=
  ⟨a, c i, fs, .ref (c 17), .ref (c 17), _, rfl, fun u r => r, L.ask i (by omega), x, by rw [← over17 L hi]; exact kit_base L hi (.inl rfl), q⟩
theorem g_askM {P : Program} {w : World} {mg : Str → Option Value} {base : Heap} {a : Addr} {fs : List (Str × V)} {i : Nat} (L : Lay P w K mg base c) (hi : i < 17) (x : IsE (c i) fs a H) (q : Q (.bl (decide (i = 13 ∨ i = 14))) H) : rAskE K [.ref a, .ref (c 18)] H Q :=
  ⟨a, c i, fs, .ref (c 18), .ref (c 18), _, rfl, fun u r => r, L.ask i (by omega), x, by rw [← over18 L hi]; exact kit_base L hi (.inr rfl), q⟩
theorem g_askT {P : Program} {w : World} {mg : Str → Option Value} {base : Heap} {a : Addr} {fs : List (Str × V)} {i : Nat} {T : String} (L : Lay P w K mg base c) (hi : i < 19) (hT : PySem.W.kitMeta T = true) (x : IsE (c i) fs a H) (q : Q (.bl ((over c i).contains (.type T))) H) : rAskE K [.ref a, .ty T] H Q :=
  ⟨a, c i, fs, .ty T, .type T, _, rfl, fun u r => r, L.ask i hi, x, kit_type L hi hT, q⟩
theorem g_inT {x : V} {p : Addr} {xs : List V} (h : H p = some (.tup xs)) (fx : flatV x = true) (fs : xs.all flatV = true) (q : Q (.bl (inV x xs)) H) : rIn K false x (.ref p) H Q := ⟨p, xs, rfl, .inr (SqT.of h), fx, fs, q⟩
theorem g_repX {l : Addr} {k : Int} {v : V} (h : H l = some (.lst [v])) (k0 : 0 ≤ k) (k1 : k ≤ 1) (q : ∀ p, H p = none → p ≠ sysModules → Q (.ref p) (upd H p (.lst (List.replicate k.toNat v)))) : rRepX (.ref l) (.int k) H Q := ⟨l, k, v, rfl, rfl, h, k0, k1, q⟩
theorem g_reprX {a : Addr} {d : PyData} (hd : Dx H (.ref a) d) (sh : d.showable = true) (dep : d.depth ≤ 40) (sz : d.shown.length ≤ sizeLine) (q : Q (.str d.shown) H) : rReprX [.ref a] H Q := ⟨a, d, rfl, hd, sh, dep, sz, q⟩
end
theorem g_catW {H : Hp} {Q : VK} {l b : Addr} {xs zs ws : List V} (h : H l = some (.lst xs)) (h2 : H b = some (.lst zs)) (e : xs ++ zs = ws) (z : ws.length ≤ sizeLine) (q : ∀ p, H p = none → Q (.ref p) (upd H p (.lst ws))) : rCat (.ref l) (.ref b) H Q :=
  ⟨l, b, xs, zs, rfl, rfl, h, h2, by rw [← List.length_append, e]; exact z, by rw [e]; exact q⟩
theorem g_nameR {i : Nat} {v : V} {σ σ' : L2.St} {H : Hp} {QS : L2.St → Hp → Prop} (h : σ.set i (some v) = σ') (q : QS σ' H) : gName i v σ H QS := by
  subst h
  exact q
theorem same_trans {H H1 H2 : Hp} (a : Same H H1) (b : Same H1 H2) : Same H H2 := fun x o h => b x o (a x o h)
theorem same_upd {H H' : Hp} {p : Addr} {o : HO} (s : Same H H') (n : H' p = none) : Same H (upd H' p o) := fun b u e => ext_new n b u (s b u e)
end EvX

/-! calls with ** of a dict whose keys are texts: what the model does, by what the dict holds -/
namespace KwX
open PySem PySem.Spec PySem.Calls PyProof.Rows
section
variable {prog : Program} {w : World} {K : Type} [DecidableEq K] {knd : KeyKind prog w K} {A : Around} {E : Value → Shared → Prop} {s : Shared}

theorem find_none {d : Addr} {kvs : List (K × Value)} {k : K} {key : Value} {Q : Option Nat → Shared → Prop} (hkey : knd.is k key = true) (hm : s.heap.DictOf knd d kvs) (hn : k ∉ kvs.map (·.1)) (hQ : Q none s) :
    wpAny (model prog w) A (dictFind d key (knd.hash k)) Q E s := by
  obtain ⟨o, es, ep, ho, hc, hd, hk, hp, hnd⟩ := hm
  refine wpAny_dictFind_of hkey ho hd hk ?_
  have hidx : (es.findIdx? fun e => knd.is k e.key) = kvs.findIdx? fun kv => decide (kv.1 = k) := by
    rw [← hp.findIdx k]; obtain ⟨l⟩ := es; simp
  have h0 : (kvs.findIdx? fun kv => decide (kv.1 = k)) = none := by
    rw [List.findIdx?_eq_none_iff]
    intro x hx
    exact decide_eq_false fun e => hn (List.mem_map.mpr ⟨x, hx, e⟩)
  rw [hidx, h0]; exact hQ

theorem put_new {d : Addr} {kvs : List (K × Value)} {k : K} {key v : Value} {Q : Unit → Shared → Prop} (hkey : knd.is k key = true) (hm : s.heap.DictOf knd d kvs) (hn : k ∉ kvs.map (·.1))
    (hQ : ∀ h', h'.DictOf knd d (kvs ++ [(k, v)]) → Heap.SameBut d s.heap h' → Q () { s with heap := h' }) (hsz : kvs.length ≤ sizeLine) :
    wpAny (model prog w) A (dictPut d (knd.hash k) key v) Q E s := by
  unfold dictPut
  refine wpAny_bind (find_none hkey hm hn ?_)
  obtain ⟨o, es, ep, ho, hc, hd, hk, hp, hnd⟩ := hm
  have hes : es.size ≤ sizeLine := by
    have e1 := hp.length
    have e2 : es.toList.length = es.size := by simp
    omega
  refine wpAny_updateDictKeys (hz := hes) ho hd (hQ _ ⟨_, _, ep + 1, Heap.get?_update_self _ ho (Obj.isFreed_of_dict (Obj.data_mapDictKeys hd _)), hc.mapDictKeys _, Obj.data_mapDictKeys hd _, hk.push hkey _, ?_, ?_⟩ (Heap.SameBut.update ..))
  · have := hp.append hkey (knd.hash k) v
    obtain ⟨l⟩ := es
    simpa using this
  · rw [List.map_append, List.nodup_append]
    refine ⟨hnd, by simp, ?_⟩
    intro a ha b hb
    simp only [List.map_cons, List.map_nil, List.mem_singleton] at hb
    subst hb
    exact fun e => hn (e ▸ ha)

theorem not_ref_of {v : Value} (h : carriedByValue v = true) : ∀ a, v ≠ .ref a := by
  intro a e
  subst e
  revert h
  unfold carriedByValue
  exact fun z => nomatch z

theorem merge_new {d o : Addr} {more : List (K × Value)} {Q : Unit → Shared → Prop} (hdo : d ≠ o) (hoS : (o == sysModules) = false)
    (hd : s.heap.DictOf knd d ([] : List (K × Value))) (ho : s.heap.DictOf knd o more)
    (hQ : ∀ h', h'.DictOf knd d more → Heap.SameBut d s.heap h' → Q () { s with heap := h' }) (hsz : more.length ≤ sizeLine) :
    wpAny (model prog w) A (mergeMapping d (.ref o) true) Q E s := by
  obtain ⟨od, esd, epd, hod, hcd, hdd, hkd, hpd, hnd⟩ := id hd
  obtain ⟨oo, eso, epo, hoo, hco, hdo', hko, hpo, hno⟩ := id ho
  have hlen : more.length = eso.size := by rw [← hpo.length]; simp
  unfold mergeMapping
  refine wpAny_bind (wpAny_isInstance ho.typeIs isSubtype_dict_dict ?_)
  rw [if_pos rfl]
  refine wpAny_bind (wpAny_specialOf ho.typeIs F.slot_dict_iter.lookup (wpAny_bind (wpAny_pure ?_)))
  dsimp only
  rw [beq_self_eq_true]
  dsimp only
  rw [if_neg (by rw [hoS]; exact Bool.false_ne_true)]
  refine wpAny_bind (wpAny_dictEntries hod hdd ?_)
  have h0 : esd = #[] := by
    have e1 := hpd.length
    have e2 : esd.toList = [] := List.length_eq_zero_iff.mp (by simpa using e1)
    simpa using e2
  rw [if_pos (by rw [h0]; rfl)]
  refine wpAny_bind (wpAny_dictEntries hoo hdo' ?_)
  have hloop : (forIn eso PUnit.unit fun e (_ : PUnit) => (match e.key with
      | .ref _ => (do
        let q ← specialOf e.key "__eq__"
        if (q != some (.builtin "object.__eq__")) = true then
          if (eso.filter (·.hash == e.hash)).size > 1 then (do let _ ← (unsupported "dict.merge-into-an-empty-dict:keys-of-equal-hash" : Sem PUnit); pure (ForInStep.yield PUnit.unit)) else pure (ForInStep.yield PUnit.unit)
        else pure (ForInStep.yield PUnit.unit) : Sem (ForInStep PUnit))
      | _ => pure (ForInStep.yield PUnit.unit) : Sem (ForInStep PUnit))) = pure PUnit.unit := by
    rw [← Array.forIn_toList]
    refine forIn_yield_id _ fun e he c => ?_
    obtain ⟨k, hkey, _⟩ := hko e (Array.mem_toList_iff.mp he)
    have z := not_ref_of (knd.byValue k _ hkey)
    cases q : e.key with
    | ref a => exact absurd q (z a)
    | _ => rfl
  have Z : ∀ {t : PUnit → Sem Unit}, wpAny (model prog w) A (t PUnit.unit) Q E s → wpAny (model prog w) A (forIn eso PUnit.unit (fun e (_ : PUnit) => (match e.key with
      | .ref _ => (do
        let q ← specialOf e.key "__eq__"
        if (q != some (.builtin "object.__eq__")) = true then
          if (eso.filter (·.hash == e.hash)).size > 1 then (do let _ ← (unsupported "dict.merge-into-an-empty-dict:keys-of-equal-hash" : Sem PUnit); pure (ForInStep.yield PUnit.unit)) else pure (ForInStep.yield PUnit.unit)
        else pure (ForInStep.yield PUnit.unit) : Sem (ForInStep PUnit))
      | _ => pure (ForInStep.yield PUnit.unit) : Sem (ForInStep PUnit))) >>= t) Q E s := fun h => by rw [hloop]; exact wpAny_bind (wpAny_pure h)
  refine Z ?_
  refine wpAny_bind (wpAny_dictEntries hoo hdo' ?_)
  refine wpAny_bind (wpAny_dictEpoch hoo hdo' ?_)
  refine wpAny_bind ?_
  refine wpAny_forIn_list _
    (fun rest _ s' => ∃ h' i, s' = { s with heap := h' } ∧ rest = List.range' i (eso.size - i) ∧ i ≤ eso.size ∧ h'.DictOf knd d (more.take i) ∧ h'.get? o = some oo ∧ Heap.SameBut d s.heap h')
    _ ?_ ?_ _ _ ⟨s.heap, 0, rfl, by rw [List.range_eq_range', Nat.sub_zero], Nat.zero_le _, by simpa using hd, hoo, Heap.SameBut.refl _ _⟩
  · rintro x rest b s' ⟨h', i, rfl, hr, hi, hd', hoo', hs'⟩
    have hlt : i < eso.size := by
      rcases Nat.lt_or_ge i eso.size with h | h
      · exact h
      · rw [Nat.sub_eq_zero_of_le h] at hr; simp at hr
    obtain ⟨rfl, hrest⟩ : x = i ∧ rest = List.range' (i + 1) (eso.size - (i + 1)) := by
      have e : eso.size - i = (eso.size - (i + 1)) + 1 := by omega
      rw [e, List.range'_succ] at hr
      injection hr with h1 h2
      exact ⟨h1, h2⟩
    refine wpAny_bind (wpAny_dictEntries hoo' hdo' ?_)
    rw [Array.getElem?_eq_getElem hlt]
    obtain ⟨kv, hkv⟩ : ∃ kv, more[x]? = some kv := ⟨more[x]'(by rw [hlen]; exact hlt), List.getElem?_eq_getElem _⟩
    obtain ⟨k, v⟩ := kv
    obtain ⟨hkey, hval⟩ := hpo.get? (e := eso[x]) (by simp [hlt]) hkv
    obtain ⟨k', hkey', hhash⟩ := hko eso[x] (Array.getElem_mem hlt)
    obtain rfl : k' = k := knd.inj _ _ _ hkey' hkey
    have hfresh : k' ∉ (more.take x).map (·.1) := by
      intro z
      obtain ⟨y, hy, ey⟩ := List.mem_map.mp z
      obtain ⟨j, hj, hjy⟩ := List.mem_take_iff_getElem.mp hy
      have hjx : j < x := by omega
      have n1 : (more.map (·.1))[j]? = some k' := by rw [List.getElem?_map, List.getElem?_eq_getElem (by omega), hjy, Option.map_some, ey]
      have n2 : (more.map (·.1))[x]? = some k' := by rw [List.getElem?_map, hkv, Option.map_some]
      have := (List.getElem?_inj (by rw [List.length_map]; omega) hno).mp (n1.trans n2.symm)
      omega
    have hmx : (more.take x).length ≤ sizeLine := by
      have e2 : (more.take x).length ≤ more.length := by rw [List.length_take]; omega
      omega
    dsimp only
    rw [hhash, hval]
    refine wpAny_bind (wpAny_holding ?_)
    rw [if_pos rfl]
    refine wpAny_bind (find_none hkey hd' hfresh ?_)
    rw [if_neg (by decide)]
    refine put_new hkey hd' hfresh (fun h'' hd'' hs'' => ?_) hmx
    have hoo'' : h''.get? o = some oo := (hs''.2 o (Ne.symm hdo)).trans hoo'
    refine wpAny_bind (wpAny_dictEpoch hoo'' hdo' ?_)
    rw [if_neg (by simp)]
    exact wpAny_pure ⟨h'', x + 1, rfl, hrest, hlt, by rw [List.take_add_one, hkv]; exact hd'', hoo'', hs'.trans hs''⟩
  · rintro b s' ⟨h', i, rfl, hr, hi, hd', hoo', hs'⟩
    have hin : i = eso.size := by
      rcases Nat.lt_or_ge i eso.size with h | h
      · have e : eso.size - i = (eso.size - (i + 1)) + 1 := by omega
        rw [e, List.range'_succ] at hr; exact nomatch hr
      · exact Nat.le_antisymm hi h
    refine wpAny_pure (hQ h' ?_ hs')
    rw [hin, ← hlen, List.take_length] at hd'; exact hd'
end
end KwX

namespace KwX
open PySem PySem.Spec PySem.Calls PyProof.Rows L2
def kwK {α : Type} (l : List (Str × α)) : List (Key × α) := l.map fun p => (Sum.inr p.1, p.2)
abbrev emptyDict : Obj := { cls := .type "dict", data := .dict #[] }
section
variable {prog : Program} {w : World} {A : Around} {E : Value → Shared → Prop} {s : Shared}
theorem key_str {x : Str} {v : Value} (h : (mixKind prog w).is (Sum.inr x) v = true) : ∃ t, v = .str x t := by
  cases v with
  | str y t =>
    have z := (mixKind prog w).inj (.str y t) (Sum.inr x) (Sum.inr y) h (mixKind_str prog w y t)
    injection z with z
    exact ⟨t, by rw [z]⟩
  | _ => first | (revert h; exact fun z => nomatch z) | (exfalso; revert h; unfold mixKind; decide) | skip
theorem pairs_kw : ∀ {es : List DictEntry} {kw : List (Str × Value)}, Pairs (mixKind prog w) es (kwK kw) → ∀ {β : Type} (acc : List (Str × Value)) (g : DictEntry → List (Str × Value) → Sem (ForInStep (List (Str × Value)))),
    (∀ e x t a, e.key = .str x t → g e a = pure (.yield (a ++ [(x, e.val)]))) → forIn es acc g = pure (acc ++ kw)
  | [], kw, h, β, acc, g, hg => by
    cases kw with
    | nil => rw [List.append_nil]; rfl
    | cons p r => exact nomatch h
  | e :: es, kw, h, β, acc, g, hg => by
    cases kw with
    | nil => exact nomatch h
    | cons p r =>
      cases h with
      | cons h1 h2 h3 =>
        obtain ⟨t, ht⟩ := key_str h1
        have ih := pairs_kw h3 (β := β) (acc ++ [(p.1, e.val)]) g hg
        have h2' : e.val = p.2 := h2
        rw [List.forIn_cons, hg e p.1 t acc ht]
        show (forIn es (acc ++ [(p.1, e.val)]) g) = _
        rw [ih, h2', List.append_assoc]
        rfl
theorem kws_in {f : Value} {d : Addr} {kw : List (Str × Value)} {Q : List (Str × Value) → Shared → Prop} (hm : s.heap.DictOf (mixKind prog w) d (kwK kw)) (h : Q kw s) : wpAny (model prog w) A (keywordsIn f d) Q E s := by
  obtain ⟨o, es, ep, ho, hc, hd, hk, hp, hnd⟩ := hm
  unfold keywordsIn
  refine wpAny_bind (wpAny_dictEntries ho hd ?_)
  rw [← Array.forIn_toList]
  refine wpAny_bind (wpAny_of_eq (pairs_kw hp (β := Unit) [] _ fun e x t a q => ?_) ?_)
  · dsimp only
    rw [q]
  · rw [List.nil_append]; exact wpAny_pure h
theorem merged_kw {f : Value} {x : Sem Value} {pos : Pos} {Q : Addr → Shared → Prop}
    (h : wpAny (model prog w) A x (fun v s1 => ∃ o kw, v = .ref o ∧ s.heap.objs.size ≠ o ∧ (o == sysModules) = false ∧ s1.heap.get? s.heap.objs.size = some emptyDict ∧ s1.heap.DictOf (mixKind prog w) o (kwK kw) ∧ kw.length ≤ sizeLine ∧
      ∀ h', h'.DictOf (mixKind prog w) s.heap.objs.size (kwK kw) → Heap.SameBut s.heap.objs.size s1.heap h' → Q s.heap.objs.size { s1 with heap := h' }) E { s with heap := s.heap.push emptyDict }) :
    wpAny (model prog w) A (mergedKeywords f [(none, (do let v ← x; standAt pos; pure v))]) Q E s := by
  unfold mergedKeywords
  refine wpAny_bind (wpAny_alloc ?_)
  refine wpAny_bind (wpAny_holding ?_)
  dsimp only
  refine wpAny_bind ?_
  rw [List.forIn_cons]
  refine wpAny_bind ?_
  dsimp only
  refine wpAny_bind ?_
  rw [if_pos (show ([] : List (Str × Sem Value)).isEmpty = true from rfl)]
  refine wpAny_pure ?_
  refine wpAny_bind (wpAny_bind (wpAny_mono h (fun v s1 h1 => ?_) fun _ _ z => z))
  obtain ⟨o, kw, rfl, hne, hS, hD, hO, hz, hq⟩ := h1
  refine wpAny_bind (wpAny_standAt (wpAny_pure ?_))
  refine wpAny_bind ?_
  refine wpAny_onRaise ?_
  refine wpAny_holding ?_
  refine wpAny_tryCatch ?_
  refine wpAny_onRaise ?_
  have hd0 : s1.heap.DictOf (mixKind prog w) s.heap.objs.size ([] : List (Key × Value)) := ⟨_, _, 0, hD, ⟨rfl, rfl, rfl⟩, rfl, fun e he => (by simp at he), .nil, List.nodup_nil⟩
  refine merge_new hne hS hd0 hO (fun h' hd' sb => ?_) (by unfold kwK; rw [List.length_map]; exact hz)
  refine wpAny_pure ?_
  dsimp only
  rw [List.forIn_nil]
  refine wpAny_pure ?_
  rw [if_pos (show ([] : List (Str × Sem Value)).isEmpty = true from rfl)]
  exact wpAny_pure (wpAny_pure (hq h' hd' sb))
theorem args_kk {f : Value} {x : Sem Value} {pos : Pos} {Q : Args → Shared → Prop}
    (h : wpAny (model prog w) A x (fun v s1 => ∃ o kw, v = .ref o ∧ s.heap.objs.size ≠ o ∧ (o == sysModules) = false ∧ s1.heap.get? s.heap.objs.size = some emptyDict ∧ s1.heap.DictOf (mixKind prog w) o (kwK kw) ∧ kw.length ≤ sizeLine ∧
      ∀ h', h'.DictOf (mixKind prog w) s.heap.objs.size (kwK kw) → Heap.SameBut s.heap.objs.size s1.heap h' → Q ⟨[], kw⟩ { s1 with heap := h' }) E { s with heap := s.heap.push emptyDict }) :
    wpAny (model prog w) A (evalArgs f true [] [(none, (do let v ← x; standAt pos; pure v))]) Q E s := by
  unfold evalArgs
  dsimp only
  refine wpAny_bind (wpAny_of_eq (by rw [spliced] : spliced [] = pure []) ?_)
  refine wpAny_bind (wpAny_pure ?_)
  refine wpAny_holding ?_
  rw [if_neg (by simp)]
  refine wpAny_bind (merged_kw (wpAny_mono h (fun v s1 h1 => ?_) fun _ _ z => z))
  obtain ⟨o, kw, rfl, hne, hS, hD, hO, hz, hq⟩ := h1
  refine ⟨o, kw, rfl, hne, hS, hD, hO, hz, fun h' hd' sb => ?_⟩
  refine wpAny_bind (wpAny_pure ?_)
  refine wpAny_bind (wpAny_holding (kws_in hd' ?_))
  exact wpAny_pure (hq h' hd' sb)
theorem call_kk {f : Value} {first : List Value} {x : Sem Value} {pos p2 : Pos} {Q : Value → Shared → Prop} {K : PySem.W.Frag} (hk : PySem.W.keepIn K f = true)
    (h : wpAny (model prog w) A x (fun v s1 => ∃ o kw, v = .ref o ∧ s.heap.objs.size ≠ o ∧ (o == sysModules) = false ∧ s1.heap.get? s.heap.objs.size = some emptyDict ∧ s1.heap.DictOf (mixKind prog w) o (kwK kw) ∧ kw.length ≤ sizeLine ∧
      ∀ h', h'.DictOf (mixKind prog w) s.heap.objs.size (kwK kw) → Heap.SameBut s.heap.objs.size s1.heap h' → K.In h' ∧ wpAny (model prog w) A (call f (first ++ []) kw) Q E { s1 with heap := h' }) E { s with heap := s.heap.push emptyDict }) :
    wpAny (model prog w) A (callWith pos f first [] [(none, (do let v ← x; standAt p2; pure v))]) Q E s := by
  unfold callWith
  refine wpAny_bind (wpAny_holding (args_kk (wpAny_mono h (fun v s1 h1 => ?_) fun _ _ z => z)))
  obtain ⟨o, kw, rfl, hne, hS, hD, hO, hz, hq⟩ := h1
  refine ⟨o, kw, rfl, hne, hS, hD, hO, hz, fun h' hd' sb => ?_⟩
  obtain ⟨hK, hc⟩ := hq h' hd' sb
  refine wpAny_bind (wpAny_standAt ?_)
  obtain ⟨k, hk', L⟩ := PySem.W.keeps_K (M := model prog w) hk _ hK
  refine wpAny_bind (L.here ?_)
  have tail : ∀ {t : Sem Value}, wpAny (model prog w) A t Q E { s1 with heap := h' } → wpAny (model prog w) A (t >>= fun r => holding [r] point >>= fun _ => pure r) Q E { s1 with heap := h' } :=
    fun ht => wpAny_bind (wpAny_mono ht (fun r s₂ hr => wpAny_bind (wpAny_holding (wpAny_point (wpAny_pure hr)))) fun _ _ x => x)
  have marked (mk : Value) : wpAny (model prog w) A (callMarked mk f (first ++ []) kw) Q E { s1 with heap := h' } := by unfold callMarked; exact Calls.wpAny_keep hc
  rcases hk' with rfl | rfl | rfl <;> dsimp only [List.any_nil, List.any_cons, Option.isNone, Bool.or_true, Bool.or_false, Bool.false_or] <;> first | exact tail (marked _) | exact tail (wpAny_operating hc)
end
end KwX

namespace KwX
open PySem PySem.Spec PySem.Calls PyProof.Rows L2 StX
section
variable {prog : Program} {w : World} {A : Around} {E : Value → Shared → Prop} {s : Shared}
/-- the loop that puts the keywords that are left over aside -/
theorem extra_loop {β : Type} {g : Str × Value → β × List (Str × Value) → Sem (ForInStep (β × List (Str × Value)))} (b : β) : ∀ (kw : List (Str × Value)) (acc : List (Str × Value)), (∀ p ∈ kw, ∀ a, g p (b, a) = pure (.yield (b, a ++ [p]))) →
    forIn kw (b, acc) g = pure (b, acc ++ kw)
  | [], acc, _ => by rw [List.append_nil]; rfl
  | p :: r, acc, h => by
    rw [List.forIn_cons, h p (.head _) acc]
    show (forIn r (b, acc ++ [p]) g) = _
    rw [extra_loop b r (acc ++ [p]) fun q hq => h q (.tail _ hq), List.append_assoc]
    rfl
theorem bind_kw1 {params : Arguments} {name qual : Str} {body : List Stmt} {scope : Scope} {kV doc pm cdv ct : Value} {an : Option Addr} {u : Value} {kw : List (Str × Value)} {p1 pd : Str} {a1 ad : Arg} {Q : List (Str × Value) → Shared → Prop}
    (hpo : params.posonlyargs = []) (hpa : params.args = [a1]) (h1 : a1.arg = p1) (hva : params.vararg = none) (hko : params.kwonlyargs = []) (hkw : params.kwarg = some ad) (hd : ad.arg = pd) (hne : ∀ p ∈ kw, p.1 ≠ p1) (hz : kw.length ≤ sizeLine)
    (h : wpAny (model prog w) A (alloc emptyDict >>= fun d => (forIn kw PUnit.unit fun x _ => (nsSet d x.1 x.2 >>= fun _ => pure (ForInStep.yield PUnit.unit))) >>= fun _ => pure [(p1, u), (pd, Value.ref d)]) Q E s) :
    wpAny (model prog w) A (bindArgs (PySem.W.fnOf name qual params body scope .none kV doc pm an cdv ct) ⟨[u], kw⟩) Q E s := by
  obtain ⟨po, pa, va, ko, kd, kwa, df⟩ := params
  dsimp only at hpo hpa hva hko hkw
  subst hpo hpa hva hko hkw h1 hd
  unfold bindArgs PySem.W.fnOf
  dsimp only
  refine wpAny_bind (wpAny_of_eq (extra_loop _ kw [] fun p hp a => ?_) ?_)
  · have e1 : ((List.map (fun x => x.arg) [a1]).contains p.fst || (List.map (fun x => x.arg) ([] : List Arg)).contains p.fst) = false := by
      simp only [List.map_cons, List.map_nil, List.contains_cons, List.contains_nil, Bool.or_false]
      exact beq_eq_false_iff_ne.mpr (hne p hp)
    rw [e1, if_neg Bool.false_ne_true, if_pos (show (some ad).isSome = true from rfl)]
  rw [List.nil_append]
  dsimp only
  refine wpAny_bind (wpAny_of_eq (a := none) rfl ?_)
  have elk : List.lookup a1.arg [(a1.arg, u)] = some u := by rw [List.lookup_cons, beq_self_eq_true]
  simp only [List.map_nil, List.map_cons, List.nil_append, List.append_nil, List.zip_cons_cons, List.zip_nil_right, List.length_cons, List.length_nil, Option.getD_none, List.drop_nil, List.take_succ_cons, List.take_zero, List.filter_cons, List.filter_nil, elk, Option.isNone_some, Option.isNone_none, Nat.sub_zero, Nat.zero_add, List.isEmpty_nil, Bool.not_true, Bool.false_eq_true, if_false, List.zip_nil_right, List.filterMap_cons, List.filterMap_nil, Option.map_some, gt_iff_lt, Nat.lt_irrefl, decide_false, Bool.false_and]
  refine wpAny_bind ?_
  rw [List.forIn_nil]
  refine wpAny_pure (wpAny_bind ?_)
  rw [List.forIn_nil]
  refine wpAny_pure ?_
  rw [if_neg (by simp), if_neg (by omega)]
  simp only [elk]
  exact h
theorem ns_new {d : Addr} {es : List DictEntry} {n : Nat} {k : Str} {v : Value} {Q : Unit → Shared → Prop} (D : s.heap.get? d = some (PySem.W.dictOf es n))
    (hs : ∀ e ∈ es, e.key.isStr k = false) (hr : ∀ e ∈ es, e.refKey = false)
    (h : ∀ h', h'.get? d = some (PySem.W.dictOf (es ++ [⟨PyData.keyHash w.params k, .str k s.toks, v⟩]) (n + 1)) → Heap.SameBut d s.heap h' → Q () { s with heap := h', toks := s.toks + 1 }) :
    wpAny (model prog w) A (nsSet d k v) Q E s := by
  have e1 : es.any (·.key.isStr k) = false := by
    cases q : es.any (·.key.isStr k) with
    | false => rfl
    | true => obtain ⟨e, he, z⟩ := List.any_eq_true.mp q; rw [hs e he] at z; cases z
  have e2 : es.any (·.refKey) = false := by
    cases q : es.any (·.refKey) with
    | false => rfl
    | true => obtain ⟨e, he, z⟩ := List.any_eq_true.mp q; rw [hr e he] at z; cases z
  have e : Obj.putName k (PyData.keyHash w.params k) (.str k s.toks) v (PySem.W.dictOf es n) = PySem.W.dictOf (es ++ [⟨PyData.keyHash w.params k, .str k s.toks, v⟩]) (n + 1) := by
    rw [PySem.W.putName_dict, PySem.W.putL_new hs]
    show PySem.W.dictOf _ (if es.any (·.key.isStr k) then n else n + 1) = _
    rw [e1, if_neg Bool.false_ne_true]
  have c : aRefKeyMayBeTheName k es.toArray = false := by
    rw [aRefKeyMayBeTheName_at, ← Array.any_toList, ← Array.any_toList]
    show (!es.any (·.key.isStr k) && es.any (·.refKey)) = false
    rw [e2, Bool.and_false]
  unfold nsSet
  refine wpAny_bind (wpAny_bind (wpAny_askSetting (wpAny_pure (wpAny_bind (wpAny_mkText (wpAny_bind (wpAny_loadPart D ?_)))))))
  dsimp only
  rw [c]
  refine wpAny_updatePart D (h _ ?_ (Heap.SameBut.update ..))
  have z := Heap.get?_update_self (Obj.putName k (PyData.keyHash w.params k) (.str k s.toks) v) D (by rw [e]; rfl)
  rw [e] at z
  exact z
theorem fill {d : Addr} {Q : PUnit → Shared → Prop} : ∀ (ex : List (Str × Value)) (s : Shared) (es : List DictEntry) (n : Nat), s.heap.get? d = some (PySem.W.dictOf es n) →
    (∀ e ∈ es, ∀ x ∈ ex, e.key.isStr x.1 = false) → (∀ e ∈ es, e.refKey = false) → (ex.map (·.1)).Nodup →
    (∀ h', h'.get? d = some (PySem.W.dictOf (es ++ PySem.W.kwEs w.params s.toks ex) (n + ex.length)) → Heap.SameBut d s.heap h' → Q ⟨⟩ { s with heap := h', toks := s.toks + ex.length }) →
    wpAny (model prog w) A (forIn ex PUnit.unit fun x _ => (nsSet d x.1 x.2 >>= fun _ => pure (ForInStep.yield PUnit.unit))) Q E s
  | [], s, es, n, D, _, _, _, h => by
    rw [List.forIn_nil]
    refine wpAny_pure (h s.heap ?_ (Heap.SameBut.refl _ _))
    show s.heap.get? d = some (PySem.W.dictOf (es ++ []) n)
    rw [List.append_nil]
    exact D
  | x :: r, s, es, n, D, hs, hr, hn, h => by
    obtain ⟨hn1, hn2⟩ := List.nodup_cons.mp (show (x.1 :: r.map (·.1)).Nodup from hn)
    rw [List.forIn_cons]
    refine wpAny_bind (wpAny_bind (ns_new D (fun e he => hs e he x (.head _)) hr fun h' D' sb => wpAny_pure ?_))
    show wpAny (model prog w) A (forIn r PUnit.unit fun x _ => (nsSet d x.1 x.2 >>= fun _ => pure (ForInStep.yield PUnit.unit))) Q E { s with heap := h', toks := s.toks + 1 }
    refine fill r { s with heap := h', toks := s.toks + 1 } _ _ D' (fun e he y hy => ?_) (fun e he => ?_) hn2 fun h'' D'' sb' => ?_
    · rcases List.mem_append.mp he with he | he
      · exact hs e he y (.tail _ hy)
      · obtain rfl := List.mem_singleton.mp he
        show (x.1 == y.1) = false
        exact beq_eq_false_iff_ne.mpr fun q => hn1 (by rw [q]; exact List.mem_map_of_mem hy)
    · rcases List.mem_append.mp he with he | he
      · exact hr e he
      · obtain rfl := List.mem_singleton.mp he
        rfl
    · have t1 : s.toks + 1 + r.length = s.toks + (r.length + 1) := by omega
      have t2 : n + 1 + r.length = n + (r.length + 1) := by omega
      show Q ⟨⟩ { s with heap := h'', toks := s.toks + 1 + r.length }
      rw [t1]
      refine h h'' ?_ (sb.trans sb')
      rw [t2, List.append_assoc] at D''
      exact D''
theorem kw_pairs : ∀ (ex : List (Str × Value)) (t : Tok), Pairs (mixKind prog w) (PySem.W.kwEs w.params t ex) (kwK ex)
  | [], _ => Pairs.nil
  | x :: r, t => Pairs.cons (mixKind_str prog w x.1 t) rfl (kw_pairs r (t + 1))
theorem kw_nodup {α : Type} {ex : List (Str × α)} (hn : (ex.map (·.1)).Nodup) : ((kwK ex).map (·.1)).Nodup := by
  have e : (kwK ex).map (·.1) = (ex.map (·.1)).map (Sum.inr : Str → Key) := by unfold kwK; rw [List.map_map, List.map_map]; rfl
  rw [e]
  exact hn.map _ fun a b q z => q (by injection z)
theorem kw_dict {h : Heap} {d : Addr} {ex : List (Str × Value)} {t : Tok} {n : Nat} (hn : (ex.map (·.1)).Nodup) (D : h.get? d = some (PySem.W.dictOf (PySem.W.kwEs w.params t ex) n)) : h.DictOf (mixKind prog w) d (kwK ex) :=
  ⟨_, (PySem.W.kwEs w.params t ex).toArray, n, D, ⟨rfl, rfl, rfl⟩, rfl, fun e he => by
    obtain ⟨k, u, hk, hh⟩ := PySem.W.kwEs_key ex t e (List.mem_toArray.mp he)
    exact ⟨Sum.inr k, by rw [hk]; exact mixKind_str prog w k u, hh.trans rfl⟩, kw_pairs ex t, kw_nodup hn⟩
end
end KwX

/-! defs with **kw: their promise, calls, new instances -/
namespace KwX
open PySem PySem.Spec PySem.Calls PyProof.Rows L2 StX
abbrev SpK := List V → List (Str × V) → Hp → VK → XK → Prop
def FnK (P : Program) (w : World) (K : PySem.W.Frag) (mg : Str → Option Value) (base : Heap) (CX : CXT) (k : Nat) (f : Addr) (sp : SpK) : Prop :=
  ∀ (A : Around) (outer : List Env) (s : Shared) (H : Hp) (us : List Value) (kw : List (Str × Value)) (vs : List V) (l : List (Str × V)) (Q : VK) (E : XK), Room k A → Env0 P w K mg base A outer s H → Vals vs us → KV l kw → (l.map (·.1)).Nodup → sp vs l H Q E →
    codeAny (model P w) A (.call (.ref f) ⟨us, kw⟩) (CR CX outer P w H s Q E) s
section
variable {P : Program} {w : World} {K : PySem.W.Frag} {mg : Str → Option Value} {base : Heap} {A : Around} {outer : List Env} {s : Shared} {H : Hp}
theorem env0_keep {a : Addr} {u : HO} {h' : Heap} {t' : Nat} (e0 : Env0 P w K mg base A outer s H) (kp : ∀ b x, s.heap.get? b = some x → h'.get? b = some x) (hz : s.heap.objs.size ≤ h'.objs.size) (ha : s.heap.objs.size ≤ a) (new : ObjOk P w (upd H a u) h' a u) :
    Env0 P w K mg base A outer { s with heap := h', toks := t' } (upd H a u) := by
  refine ⟨e0.frames, e0.mod, fun b x e => ⟨kp b x (e0.bs b x e).1, ?_⟩, Nat.le_trans e0.bsz hz, Heap.FunFrames.of_keeps (fun b x e _ => ⟨x, kp b x e, rfl⟩) e0.funs, fun b hb => ?_, e0.hok.laid kp ha new, e0.bare⟩
  · rw [upd_ne (Nat.ne_of_lt (Nat.lt_of_lt_of_le (Heap.lt_size (e0.bs b x e).1) ha))]
    exact (e0.bs b x e).2
  · obtain ⟨_, x, hx, _⟩ := e0.funs.mem hb
    rw [upd_ne (Nat.ne_of_lt (Nat.lt_of_lt_of_le (Heap.lt_size hx) ha))]
    exact e0.frf b hb
theorem kv_kwK : ∀ {l : List (Str × V)} {kw : List (Str × Value)}, KV l kw → KV (kwK l) (kwK kw)
  | _, _, .nil => .nil
  | _, _, .cons h t => .cons ⟨congrArg Sum.inr h.1, h.2⟩ (kv_kwK t)
theorem kwK_inv : ∀ {l : List (Str × V)} {vs : List (Key × Value)}, KV (kwK l) vs → ∃ kw, vs = kwK kw ∧ KV l kw
  | [], _, .nil => ⟨[], rfl, .nil⟩
  | p :: r, q :: _, .cons h t => by
    obtain ⟨kw, e, hk⟩ := kwK_inv (l := r) t
    obtain ⟨h1, h2⟩ := h
    refine ⟨(p.1, q.2) :: kw, ?_, .cons ⟨rfl, h2⟩ hk⟩
    rw [e]
    have : q = (Sum.inr p.1, q.2) := by rw [show (Sum.inr p.1 : Key) = q.1 from h1]
    rw [this]; rfl
theorem kwK_nodup {l : List (Str × V)} (hn : ((kwK l).map (·.1)).Nodup) : (l.map (·.1)).Nodup := by
  have e : (kwK l).map (·.1) = (l.map (·.1)).map (Sum.inr : Str → Key) := by unfold kwK; rw [List.map_map, List.map_map]; rfl
  rw [e] at hn
  exact List.Pairwise.of_map _ (fun a b h => fun q => h (by rw [q])) hn
theorem kwK_length {α : Type} (l : List (Str × α)) : (kwK l).length = l.length := List.length_map ..
end
section
variable {CX : CXT} {P : Program} {w : World} {K : PySem.W.Frag} {mg : Str → Option Value} {base : Heap} {k : Nat} {f : Addr} {name qual : Str} {params : Arguments} {body : List Stmt} {scope : Scope} {kV doc pm cdv ct oc : Value} {an od : Option Addr}
  {osl : Array (Option Value)} {N : List Str} {p1 pd : Str} {a1 ad : Arg} {sp : Sp}
/-- def f(self, **kw) -/
theorem fnK1 (lk : K.lookup f = some ⟨oc, od, .func (PySem.W.fnOf name qual params body scope .none kV doc pm an cdv ct), osl⟩) (hcd : PySem.W.codeIn K cdv qual = true) (S : FnScope N [p1, pd] scope) (hCX : CXUp CX)
    (hpo : params.posonlyargs = []) (hpa : params.args = [a1]) (h1 : a1.arg = p1) (hva : params.vararg = none) (hko : params.kwonlyargs = []) (hkw : params.kwarg = some ad) (hd : ad.arg = pd)
    (hbody : ∀ (A : Around) (outer : List Env) (s : Shared) (H : Hp) (vs : List V) (Q : VK) (E : XK), Room k (A.deeper (envOfC qual scope s.heap.objs.size f cdv)) → sp vs H Q E →
      ∃ t, PSs (cxOf CX P w K mg base N qual scope f cdv A outer s H E) body t ∧ t { nx := fun _ H' => Q .non H', rt := Q } (start N vs) H) :
    FnK P w K mg base CX (k + 1) f (fun vs l H Q E => ∃ x, vs = [x] ∧ (∀ p ∈ l, p.1 ≠ p1) ∧ l.length ≤ sizeLine ∧ ∀ d, H d = none → sp [x, .ref d] (upd H d (.dK (kwK l))) Q E) := by
  intro A outer s H us kw vs l Q E hr e0 r rk hn hsp
  obtain ⟨x, rfl, hne, hz, hq⟩ := hsp
  cases r with
  | @cons _ u _ _ rx rn =>
  cases rn
  have hl : l.length = kw.length := rk.length
  have hkeys : l.map (·.1) = kw.map (·.1) := KV.keys rk
  have hn' : (kw.map (·.1)).Nodup := hkeys ▸ hn
  have hne' : ∀ p ∈ kw, p.1 ≠ p1 := fun p hp e => by
    have : p.1 ∈ l.map (·.1) := by rw [hkeys]; exact List.mem_map_of_mem hp
    obtain ⟨q, hq1, hq2⟩ := List.mem_map.mp this
    exact hne q hq1 (hq2.trans e)
  have hnn : H s.heap.objs.size = none := e0.hok.fresh (Nat.le_refl _)
  refine run_bnd lk hcd S hr e0 (G := fun xs H2 => ∃ d, H d = none ∧ xs = [x, V.ref d] ∧ H2 = upd H d (.dK (kwK l))) (fun A' Ex Q' h => ?_) fun s2 H2 xs ⟨d, hdn, ex, eH⟩ hr' => ?_
  · refine bind_kw1 hpo hpa h1 hva hko hkw hd hne' (by omega) ?_
    refine wpAny_bind (wpAny_alloc (wpAny_bind ?_))
    refine fill (d := s.heap.objs.size) kw _ [] 0 (Heap.get?_push_size _ rfl) (fun _ he => nomatch he) (fun _ he => nomatch he) hn' fun h' D sb => wpAny_pure ?_
    rw [List.nil_append] at D
    have kp : ∀ b o, s.heap.get? b = some o → h'.get? b = some o := fun b o q => (sb.2 b (Nat.ne_of_lt (Heap.lt_size q))).trans (Heap.get?_push_of_some _ q)
    have hsz : s.heap.objs.size ≤ h'.objs.size := Nat.le_of_lt (Heap.lt_size D)
    have big := env0_big e0
    have new : ObjOk P w (upd H s.heap.objs.size (.dK (kwK l))) h' s.heap.objs.size (.dK (kwK l)) :=
      ⟨by rw [kwK_length]; exact hz, beq_eq_false_iff_ne.mpr (Nat.ne_of_gt big), kwK kw, kv_kwK rk, kw_dict hn' D⟩
    have un : Un (frs outer) [] H (upd H s.heap.objs.size (.dK (kwK l))) s.heap h' := Un.laid kp (Nat.le_refl _) hnn
    have e1 : Env0 P w K mg base A outer { s with heap := h', toks := s.toks + kw.length } (upd H s.heap.objs.size (.dK (kwK l))) := env0_keep e0 kp hsz (Nat.le_refl _) new
    exact h _ _ [x, V.ref s.heap.objs.size] [u, Value.ref s.heap.objs.size] e1 un rfl (fun e s' => hCX outer s H _ _ E e s' un kp rfl) (.cons rx (.cons rfl .nil)) rfl ⟨_, hnn, rfl, rfl⟩
  · subst ex eH
    exact hbody A outer s2 _ _ Q E hr' (hq d hdn)
end

/-- a new instance of C by its __init__ with keywords -/
def InsQ (C : Addr) (sp : SpK) (vs : List V) (l : List (Str × V)) (H : Hp) (Q : VK) (E : XK) : Prop := ∀ x dx, H x = none → H dx = none → dx ≠ x →
  sp (.ref x :: vs) l (upd (upd H dx (.own x)) x (.ins C dx [])) (fun v H3 => v = .non ∧ Q (.ref x) H3) E
section
variable {X : Cx} {CX : CXT} {k n : Nat} {f C : Addr} {ks : List Str} {sp : SpK} {E : XK} {x : Str} {p pos kp : Pos} {e : Expr} {es : List Expr} {kws : List Keyword} {tf te : TE} {t tk : TA}
theorem run_newK {pins : List (Addr × Obj)} {σ : L2.St} {H : Hp} {s : Shared} {Q : VK} {us : List Value} {kw : List (Str × Value)} {vs : List V} {l : List (Str × V)} (M : Mk X.K C f) (F : FnK X.prog X.w X.K X.mg X.base CX k f sp) (hr : Room (k + 1) X.A)
    (hx : Passes CX X E) (I : Inv X pins σ H s) (r : Vals vs us) (rz : KV l kw) (hn : (l.map (·.1)).Nodup) (h : InsQ C sp vs l H Q E) :
    wpAny (model X.prog X.w) X.A (call (.ref C) us kw) (EP X pins σ Q) X.xe s := by
  have hq := h (s.heap.objs.size + 1) s.heap.objs.size (I.hok.fresh (Nat.le_succ _)) (I.hok.fresh (Nat.le_refl _)) (Nat.ne_of_lt (Nat.lt_succ_self _))
  have I2 := Inv.made (C := C) I
  have r1 : Vals (V.ref (s.heap.objs.size + 1) :: vs) (Value.ref (s.heap.objs.size + 1) :: us) := .cons rfl r
  refine wpAny_call (make_map (f := f) I.kIn M.makes M.init (beq_iff_eq.mp M.fn) (codeAny_mono (F _ X.stack _ _ (Value.ref (s.heap.objs.size + 1) :: us) kw _ _ _ E (hr.make C us kw)
    (I2.env0.make C us kw) r1 rz hn hq) fun r s' hq' => ?_))
  cases r with
  | error e => exact hx pins σ _ _ e s' I2 hq'
  | ok fl =>
    cases fl with
    | ret u =>
      obtain ⟨v, H', I3, rv, ev, q3⟩ := I2.after hq'
      subst ev
      exact ⟨rv, ⟨V.ref (s.heap.objs.size + 1), H', I3, rfl, q3⟩⟩
    | next => exact False.elim hq'
    | brk => exact False.elim hq'
    | cont => exact False.elim hq'
/-- C(**e), the callee a name -/
def tNewS (C : Addr) (sp : SpK) (E : XK) (tf te : TE) : TE := fun σ H Q => tf σ H fun y H1 => y = .ref C ∧ te σ H1 fun z H2 => ∃ a l, z = .ref a ∧ H2 a = some (.dK (kwK l)) ∧ InsQ C sp [] l H2 Q E
theorem pe_newS (hc : PE X (.Name x p) tf) (M : Mk X.K C f) (F : FnK X.prog X.w X.K X.mg X.base CX k f sp) (hr : Room (k + 1) X.A) (hx : Passes CX X E) (he : PE X e te) :
    PE X (.Call (.Name x p) [] [⟨none, e, kp⟩] pos) (tNewS C sp E tf te) := by
  refine ⟨fun pins s σ H Q I h => ?_⟩
  refine wpAny_Call_Name_kw (thn (hc.run pins s σ H _ I h) fun u s1 ⟨y, H1, I1, ry, ey, q⟩ => ?_)
  subst ey
  obtain rfl : u = Value.ref C := ry
  refine call_kk M.kp ?_
  have hb : X.base.get? s1.heap.objs.size = none := by
    cases e : X.base.get? s1.heap.objs.size with
    | none => rfl
    | some o => exact absurd (Heap.lt_size (I1.bs _ o e).1) (Nat.lt_irrefl _)
  have I2 : Inv X ((s1.heap.objs.size, emptyDict) :: pins) σ H1 { s1 with heap := s1.heap.push emptyDict } := by
    have I1' := I1.kept (h' := s1.heap.push emptyDict) (t' := s1.toks) fun _ _ z => Heap.get?_push_of_some _ z
    refine I1'.pins_of fun q hq => ?_
    rcases List.mem_cons.mp hq with e | e
    · subst e
      exact ⟨Heap.get?_push_size _ rfl, I1.hok.fresh (Nat.le_refl _), Nat.ne_of_gt I1.lt, I1.nofs (Nat.le_refl _), fun v z => nomatch z⟩
    · exact I1'.pin q (List.mem_append_right _ e)
  refine thn (he.run _ _ σ H1 _ I2 q) fun u s3 ⟨z, H3, I3, rz, a, l, ez, ha, hq⟩ => ?_
  subst ez
  obtain rfl : u = Value.ref a := rz
  have hD := I3.pin (s1.heap.objs.size, emptyDict) (List.mem_append_right _ List.mem_cons_self)
  obtain ⟨hz, hS, vs, rk, hO⟩ := I3.hok a _ ha
  obtain ⟨kw, ek, rk'⟩ := kwK_inv rk
  subst ek
  obtain ⟨_, _, _, _, _, _, _, _, hnd⟩ := id hO
  have hnl : (l.map (·.1)).Nodup := kwK_nodup (by rw [KV.keys rk]; exact hnd)
  have hne : s1.heap.objs.size ≠ a := fun e => by
    have := hD.2.1
    rw [show (s1.heap.objs.size, emptyDict).1 = a from e, ha] at this
    cases this
  refine ⟨a, kw, rfl, hne, hS, hD.1, hO, by rw [← rk'.length, ← kwK_length l]; exact hz, fun h' hd' sb => ?_⟩
  have sz3 : X.s_0.heap.objs.size ≤ s1.heap.objs.size := I1.sz
  have I4 : Inv X pins σ H3 { s3 with heap := h' } := by
    have I3' : Inv X pins σ H3 s3 := I3.pins_of fun q hq => I3.pin q (List.mem_append_right _ (List.mem_cons_of_mem _ hq))
    refine I3'.turned (t' := s3.toks) (fun b o hb z => (sb.2 b hb).trans z) hD.2.1 hD.2.2.1 (.inr sz3) (fun y c ec z => ?_) fun q hq z => ?_
    · obtain ⟨v, o, ho, hd⟩ := I3.cell y c ec
      rw [z, hD.1] at ho
      cases ho
      cases hd
    · have lt : q.1 < s1.heap.objs.size := Heap.lt_size (I1.pin q hq).1
      exact absurd z (Nat.ne_of_lt lt)
  exact ⟨I4.kIn, run_newK M F hr hx I4 .nil rk' hnl hq⟩
/-- C(), C(k = v, ..): keywords alone -/
def tNewK (C : Addr) (ks : List Str) (sp : SpK) (E : XK) (tk : TA) : TE := fun σ H Q => tk σ H fun zs H1 => zs.length = ks.length ∧ InsQ C sp [] (ks.zip zs) H1 Q E
theorem kv_zip : ∀ {ks : List Str} {zs : List V} {ws : List Value}, Vals zs ws → KV (ks.zip zs) (ks.zip ws)
  | [], _, _, _ => by simp only [List.zip_nil_left]; exact .nil
  | k :: ks, [], _, .nil => by simp only [List.zip_nil_right]; exact .nil
  | k :: ks, z :: zs, w :: ws, .cons h t => .cons ⟨rfl, h⟩ (kv_zip t)
theorem pe_newK (hg : Gl X x) (hm : X.mg x = some (.ref C)) (M : Mk X.K C f) (F : FnK X.prog X.w X.K X.mg X.base CX k f sp) (hr : Room (k + 1) X.A) (hx : Passes CX X E) (hkw : PK X kws tk) (hnd : ks.Nodup)
    (hall : (backToKw pos (keywordEach kws X.env)).all (·.1.isSome) = true := by rfl) (hks : (backToKw pos (keywordEach kws X.env)).filterMap (·.1) = ks := by rfl)
    (hdb : (x == ("__debug__" : Str)) = false := by decide) (hpl : ((backTo pos (starEach [] X.env)).any (·.1) || (backToKw pos (keywordEach kws X.env)).any (·.1.isNone)) = false := by rfl) :
    PE X (.Call (.Name x p) [] kws pos) (tNewK C ks sp E tk) := by
  refine ⟨fun pins s σ H Q I h => ?_⟩
  refine wpAny_Call_Name_kw (ld_glob I hg hm ?_ hdb)
  refine PySem.W.callWith_KW0 (h₀ := X.base) I.ok.mod.kin M.kp hall (thn (hkw.run pos pins s σ H _ I h) fun ws s2 ⟨zs, H2, I2, rz, l2, q2⟩ => ⟨I2.kIn, ?_⟩) hpl
  rw [hks]
  refine run_newK M F hr hx I2 .nil (kv_zip rz) ?_ q2
  rw [List.map_fst_zip (by rw [l2]; exact Nat.le_refl _)]
  exact hnd
end
end KwX

/-! a class's own len, bool, in, x[i], ==, !=, repr, str, f-strings -/
namespace KwX
open PySem PySem.Spec PySem.Calls PyProof.Rows L2 StX
structure OwnD (K : PySem.W.Frag) (C : Addr) (nm : Str) (f : Addr) : Prop where
  fi : PySem.W.findIn K (.ref C) nm = some (some (.ref f))
  fn : PySem.W.isFn K (.ref f) = true
def InsAt (H : Hp) (a C : Addr) : Prop := ∃ dx fs, H a = some (.ins C dx fs)
section
variable {X : Cx} {CX : CXT} {k n : Nat} {f C a : Addr} {sp : Sp} {E : XK} {pins : List (Addr × Obj)} {σ : L2.St} {H : Hp} {s : Shared} {Q : VK}
theorem inst_of (I : Inv X pins σ H s) (h : InsAt H a C) : ∃ ox od, PySem.W.InstAt s.heap a ox C od := by
  obtain ⟨dx, fs, ha⟩ := h
  obtain ⟨mA, J, _⟩ := ins_get I.hok ha
  obtain ⟨od, J, _⟩ := J.look
  exact ⟨_, _, J⟩
theorem run_at {A' : Around} {us : List Value} {vs : List V} (sb : Sub X n A') (F : FnR X.prog X.w X.K X.mg X.base CX n f sp) (hx : Passes CX X E) (I : Inv X pins σ H s) (r : Vals vs us) (h : sp vs H Q E) :
    wpAny (model X.prog X.w) A' (call (.ref f) us) (EP X pins σ Q) X.xe s := by
  have e0 : Env0 X.prog X.w X.K X.mg X.base A' X.stack s H := by
    have e := I.env0
    exact ⟨by rw [sb.fr]; exact e.frames, e.mod, e.bs, e.bsz, e.funs, e.frf, e.hok, e.bare⟩
  refine wpAny_call (codeAny_mono (F A' X.stack s H us vs Q E sb.room e0 r h) fun r s' hq => ?_)
  cases r with
  | error e => exact hx pins σ H s e s' I hq
  | ok fl =>
    cases fl with
    | ret u => exact I.after hq
    | next => exact False.elim hq
    | brk => exact False.elim hq
    | cont => exact False.elim hq
theorem sub0 (hr : Room n X.A) : Sub X n X.A := ⟨hr, rfl⟩
theorem sub1 (hr : Room (n + 1) X.A) : Sub X n X.A.in1 := (sub0 hr).in1
/-- len(o) -/
def rLenO (C : Addr) (sp : Sp) (E : XK) : List V → Hp → VK → Prop := fun xs H Q => ∃ a, xs = [.ref a] ∧ InsAt H a C ∧ sp [.ref a] H (fun v H' => ∃ i, v = .int i ∧ 0 ≤ i ∧ i < 2 ^ 63 ∧ Q (.int i) H') E
theorem call_lenO (O : OwnD X.K C "__len__" f) (F : FnR X.prog X.w X.K X.mg X.base CX n f sp) (hr : Room (n + 1) X.A) (hx : Passes CX X E) : CallR X (.builtin "len") (rLenO C sp E) := by
  intro pins s σ H xs us Q I r h
  obtain ⟨a, rfl, ha, hs⟩ := h
  obtain ⟨u, rfl, ru⟩ := vals1 r
  obtain rfl : u = Value.ref a := ru
  obtain ⟨ox, od, J⟩ := inst_of I ha
  obtain ⟨m, hF⟩ := I.fr
  refine PySem.W.len_K hF I.ok.mod.kin J O.fi O.fn (thn (run_at (sub1 hr) (us := [.ref a]) (vs := [.ref a]) F hx I (.cons rfl .nil) hs) fun v s' hv => ?_)
  obtain ⟨x, H', I', rx, i, rfl, h0, h1, q⟩ := hv
  obtain ⟨t, rfl⟩ := rx
  exact ⟨⟨h0, h1⟩, .int i, H', I'.tok _, ⟨_, rfl⟩, q⟩
/-- repr(o) -/
def rStrO (C : Addr) (sp : Sp) (E : XK) : List V → Hp → VK → Prop := fun xs H Q => ∃ a, xs = [.ref a] ∧ InsAt H a C ∧ sp [.ref a] H (fun v H' => ∃ y, v = .str y ∧ Q (.str y) H') E
theorem call_reprO (O : OwnD X.K C "__repr__" f) (F : FnR X.prog X.w X.K X.mg X.base CX n f sp) (hr : Room (n + 1) X.A) (hx : Passes CX X E) : CallR X (.builtin "repr") (rStrO C sp E) := by
  intro pins s σ H xs us Q I r h
  obtain ⟨a, rfl, ha, hs⟩ := h
  obtain ⟨u, rfl, ru⟩ := vals1 r
  obtain rfl : u = Value.ref a := ru
  obtain ⟨ox, od, J⟩ := inst_of I ha
  obtain ⟨m, hF⟩ := I.fr
  refine PySem.W.repr_K (sub1 hr).room.units0 hF I.ok.mod.kin J O.fi O.fn (thn (run_at (sub1 hr) (us := [.ref a]) (vs := [.ref a]) F hx I (.cons rfl .nil) hs) fun v s' hv => ?_)
  obtain ⟨x, H', I', rx, y, rfl, q⟩ := hv
  obtain ⟨t, rfl⟩ := rx
  exact ⟨.str y, H', I', ⟨_, rfl⟩, q⟩
/-- str(o) -/
theorem call_strO (O : OwnD X.K C "__str__" f) (F : FnR X.prog X.w X.K X.mg X.base CX n f sp) (hr : Room (n + 2) X.A) (hx : Passes CX X E) : CallR X (.type "str") (rStrO C sp E) := by
  intro pins s σ H xs us Q I r h
  obtain ⟨a, rfl, ha, hs⟩ := h
  obtain ⟨u, rfl, ru⟩ := vals1 r
  obtain rfl : u = Value.ref a := ru
  obtain ⟨ox, od, J⟩ := inst_of I ha
  have sb : Sub X n X.A.in1.in1 := (sub1 (n := n + 1) hr).in1
  refine PySem.W.kso_call sb.room.units0 I.kIn J O.fi O.fn (thn (run_at sb (us := [.ref a]) (vs := [.ref a]) F hx I (.cons rfl .nil) hs) fun v s' hv => ?_)
  obtain ⟨x, H', I', rx, y, rfl, q⟩ := hv
  obtain ⟨t, rfl⟩ := rx
  exact ⟨.str y, H', I', ⟨_, rfl⟩, q⟩
/-- {o} in an f-string, o with an own __str__ -/
def tFmtO (C : Addr) (sp : Sp) (E : XK) (te : TE) : TE := fun σ H Q => te σ H fun x H1 => rStrO C sp E [x] H1 Q
theorem pe_fmtO {e : Expr} {te : TE} {pos : Pos} (he : PE X e te) (O : OwnD X.K C "__str__" f) (hfm : PySem.W.findIn X.K (.ref C) "__format__" = some (some (.builtin "object.__format__"))) (hm : PySem.W.mroIn X.K C (.type "object") = some true)
    (F : FnR X.prog X.w X.K X.mg X.base CX n f sp) (hr : Room (n + 1) X.A) (hx : Passes CX X E) : PE X (.FormattedValue e (-1) none pos) (tFmtO C sp E te) := by
  refine ⟨fun pins s σ H Q I h => ?_⟩
  refine wpAny_FormattedValue_plain (thn (he.run pins s σ H _ I h) fun v s1 hv => ?_)
  obtain ⟨x, H1, I1, r1, a, ex, ha, hs⟩ := hv
  cases ex
  obtain rfl : v = Value.ref a := r1
  obtain ⟨ox, od, J⟩ := inst_of I1 ha
  refine PySem.W.kfo_fieldS (sub1 hr).room.units0 I1.kIn J hfm hm O.fi O.fn (thn (run_at (sub1 hr) (us := [.ref a]) (vs := [.ref a]) F hx (I1.tok _) (.cons rfl .nil) hs) fun v s' hv => ?_)
  obtain ⟨x, H', I', rx, y, rfl, q⟩ := hv
  obtain ⟨t, rfl⟩ := rx
  exact ⟨.str y, H', I', ⟨_, rfl⟩, q⟩
/-- x in o -/
def rInO (C : Addr) (sp : Sp) (E : XK) : R2 := fun x y H Q => ∃ a, y = .ref a ∧ InsAt H a C ∧ sp [.ref a, x] H (fun v H' => ∃ b, v = .bl b ∧ Q (.bl b) H') E
theorem op_inO (O : OwnD X.K C "__contains__" f) (F : FnR X.prog X.w X.K X.mg X.base CX n f sp) (hr : Room n X.A) (hx : Passes CX X E) : OpR X (compareOp .In) (rInO C sp E) := by
  intro pins s σ H x y v u Q I rx ry h
  obtain ⟨a, rfl, ha, hs⟩ := h
  obtain rfl : u = Value.ref a := ry
  obtain ⟨ox, od, J⟩ := inst_of I ha
  obtain ⟨m, hF⟩ := I.fr
  refine PySem.W.in_K hF I.ok.mod.kin J O.fi O.fn (thn (run_at (sub0 hr) (us := [.ref a, v]) (vs := [.ref a, x]) F hx I (.cons rfl (.cons rx .nil)) hs) fun v s' hv => ?_)
  obtain ⟨z, H', I', rz, b, rfl, q⟩ := hv
  obtain rfl := rz
  exact wpAny_truthy_bool ⟨.bl b, H', I', rfl, q⟩
/-- o[x] -/
def rIxO (C : Addr) (sp : Sp) (E : XK) : R2 := fun x y H Q => ∃ a, x = .ref a ∧ InsAt H a C ∧ sp [.ref a, y] H Q E
theorem ix_own (O : OwnD X.K C "__getitem__" f) (hf : PySem.W.fnIn X.K f = true) (F : FnR X.prog X.w X.K X.mg X.base CX n f sp) (hr : Room (n + 1) X.A) (hx : Passes CX X E) {a b : Expr} {ta tb : TE} {pos : Pos} (ha : PE X a ta) (hb : PE X b tb)
    (hsl : ∀ o i, subscripted b true o i = runValue (.builtin "lifetime.subscript" ⟨[o, i], []⟩)) : PE X (.Subscript a b pos) (tOp (rIxO C sp E) ta tb) := by
  refine ⟨fun pins s σ H Q I h => ?_⟩
  refine Subscript_ (binT ha hb I h fun v u s2 x y H2 I2 rx ry q => ?_)
  obtain ⟨a', rfl, hi, hs⟩ := q
  obtain rfl : v = Value.ref a' := rx
  obtain ⟨ox, od, J⟩ := inst_of I2 hi
  obtain ⟨m, hF⟩ := I2.fr
  exact PySem.W.sub_K hF I2.ok.mod.kin J O.fi hf O.fn (run_at (sub1 hr) (us := [.ref a', u]) (vs := [.ref a', y]) F hx I2 (.cons rfl (.cons ry .nil)) hs) (hsl _ _)
/-- o == y -/
def rEqO (K : PySem.W.Frag) (C : Addr) (sp : Sp) (E : XK) : R2 := fun x y H Q => ∃ a t, x = .ref a ∧ InsAt H a C ∧ TyX K H y t ∧ PySem.W.notFirst K C t = true ∧ sp [.ref a, y] H (fun v H' => ∃ b, v = .bl b ∧ Q (.bl b) H') E
theorem op_eqO (O : OwnD X.K C "__eq__" f) (F : FnR X.prog X.w X.K X.mg X.base CX n f sp) (hr : Room n X.A) (hx : Passes CX X E) : OpR X (compareOp .Eq) (rEqO X.K C sp E) := by
  intro pins s σ H x y v u Q I rx ry h
  obtain ⟨a, t, rfl, ha, hty, hn, hs⟩ := h
  obtain rfl : v = Value.ref a := rx
  obtain ⟨ox, od, J⟩ := inst_of I ha
  obtain ⟨m, hF⟩ := I.fr
  obtain ⟨P, Z, hP, _⟩ := kit_of I ry hty
  show wpAny (model X.prog X.w) X.A (richCompare .Eq (.ref a) u) (EP X pins σ Q) X.xe s
  refine PySem.W.cmp_K (op := .Eq) hr.units0 hF I.ok.mod.kin J (Z.ty _ _ I.kIn hP) hn O.fi O.fn (thn (run_at (sub0 hr) (us := [.ref a, u]) (vs := [.ref a, y]) F hx I (.cons rfl (.cons ry .nil)) hs) fun z s' hv => ?_)
  obtain ⟨x, H', I', rz, b, rfl, q⟩ := hv
  obtain rfl := rz
  exact ⟨.bl b, H', I', rfl, q⟩
/-- o != y: by the own ==, turned -/
def rNeO (K : PySem.W.Frag) (C : Addr) (sp : Sp) (E : XK) : R2 := fun x y H Q => ∃ a t, x = .ref a ∧ InsAt H a C ∧ TyX K H y t ∧ PySem.W.notFirst K C t = true ∧ sp [.ref a, y] H (fun v H' => ∃ b, v = .bl b ∧ Q (.bl (!b)) H') E
theorem ifBound_B {M : Model} {A : Around} {E : Value → Shared → Prop} {s : Shared} {K : PySem.W.Frag} {x C : Addr} {ox : Obj} {od : Option Obj} {name : Str} {id : String} {args : List Value} {Q : Option Value → Shared → Prop} (X : K.In s.heap) (I : PySem.W.InstAt s.heap x ox C od)
    (hs : PySem.W.findIn K (.ref C) name = some (some (.builtin id))) (hb : ∀ self, bindSpecial (.builtin id) self = pure (.builtin id, [self]))
    (h : wpAny M A (call (.builtin id) (.ref x :: args)) (fun v => Q (some v)) E s) : wpAny M A (callSpecialIfBound? (.ref x) name args) Q E s := by
  simp only [callSpecialIfBound?, bindSpecialIfBound?]
  refine wpAny_holding (wpAny_bind (wpAny_bind (wpAny_bind (I.type.here ((PySem.W.looks_findIn X hs).here ?_)))))
  refine wpAny_bind (wpAny_askSetting (wpAny_ite ?_))
  have fin : wpAny M A (call (.builtin id) ([.ref x] ++ args) >>= fun v => pure (some v)) Q E s := wpAny_bind (wpAny_mono h (fun v s' h' => wpAny_pure h') fun _ _ h' => h')
  split
  · exact wpAny_bind ((PySem.W.Looks.of_pure (hb _)).here (wpAny_pure (by exact fin)))
  · exact wpAny_tryCatch (wpAny_bind ((PySem.W.Looks.of_pure (hb _)).here (wpAny_pure (by exact fin))))
theorem ne_call {prog : Program} {w : World} {A : Around} {E : Value → Shared → Prop} {s : Shared} {K : PySem.W.Frag} {x C f : Addr} {ox : Obj} {od : Option Obj} {b : Value} {Q : Value → Shared → Prop} (hu : A.in1.units < cLine) (X : K.In s.heap) (I : PySem.W.InstAt s.heap x ox C od)
    (hm : PySem.W.mroIn K C (.type "object") = some true) (hs : PySem.W.findIn K (.ref C) "__eq__" = some (some (.ref f))) (hf : PySem.W.isFn K (.ref f) = true)
    (h : wpAny (model prog w) A.in1 (call (.ref f) [.ref x, b]) (fun v s' => ∃ k, v = .bool k ∧ Q (.bool (!k)) s') E s) : wpAny (model prog w) A (call (.builtin "object.__ne__") [.ref x, b]) Q E s := by
  refine wpAny_call (codeAny_call_builtin PySem.F.slot_object_ne.plain PySem.F.entry_object_ne (PySem.W.check_slot (i := "object.__ne__") (owner := "object") (n := "__ne__") (by decide +kernel) (by decide +kernel) (I.type.andThen (PySem.W.looks_mroIn X hm)) (PySem.F.args_object_ne_2 _ _) ?_))
  unfold Builtin.«object.__ne__»
  refine wpAny_bind (wpAny_pure ?_)
  refine wpAny_bind (m := cRoomFor _ _) (wpAny_cRoomFor hu ?_)
  refine wpAny_bind (m := callSpecialIfBound? (.ref x) (Str.ofString "__eq__") _) (PySem.W.ifBound_K X I hs hf (wpAny_mono h (fun r s' hq => ?_) fun _ _ y => y))
  obtain ⟨k, rfl, q⟩ := hq
  exact wpAny_bind (wpAny_truthy_bool (wpAny_pure q))
theorem op_neO (O : OwnD X.K C "__eq__" f) (hne : PySem.W.findIn X.K (.ref C) "__ne__" = some (some (.builtin "object.__ne__"))) (hm : PySem.W.mroIn X.K C (.type "object") = some true) (F : FnR X.prog X.w X.K X.mg X.base CX n f sp) (hr : Room (n + 1) X.A) (hx : Passes CX X E) :
    OpR X (compareOp .NotEq) (rNeO X.K C sp E) := by
  intro pins s σ H x y v u Q I rx ry h
  obtain ⟨a, t, rfl, ha, hty, hn, hs⟩ := h
  obtain rfl : v = Value.ref a := rx
  obtain ⟨ox, od, J⟩ := inst_of I ha
  obtain ⟨P, Z, hP, _⟩ := kit_of I ry hty
  have one : wpAny (model X.prog X.w) X.A (tryCompare (.ref a) (cmpInfo .NotEq).2.1 u) (fun r s' => ∃ v, r = some v ∧ EP X pins σ Q v s') X.xe s := by
    unfold tryCompare
    refine wpAny_bind (ifBound_B I.kIn J hne PySem.F.slot_object_ne.bind (ne_call (sub1 hr).room.units0 I.kIn J hm O.fi O.fn (thn (run_at (sub1 hr) (us := [.ref a, u]) (vs := [.ref a, y]) F hx I (.cons rfl (.cons ry .nil)) hs) fun z s' hv => ?_)))
    obtain ⟨x, H', I', rz, b, rfl, q⟩ := hv
    obtain rfl := rz
    exact ⟨b, rfl, wpAny_pure ⟨_, rfl, .bl (!b), H', I', rfl, q⟩⟩
  show wpAny (model X.prog X.w) X.A (richCompare .NotEq (.ref a) u) (EP X pins σ Q) X.xe s
  unfold richCompare
  simp only [oneThing_ref]
  refine wpAny_holding (wpAny_bind (wpAny_cRoomFor hr.units0 ?_))
  refine wpAny_bind (J.type.here (wpAny_bind ((Z.ty _ _ I.kIn hP).here ?_)))
  split
  · rename_i q
    have e : PySem.W.subIn X.K t (.ref C) = some false := by
      rcases Bool.or_eq_true_iff.mp hn with e | e
      · rw [beq_iff_eq.mp e] at q; simp at q
      · exact beq_iff_eq.mp e
    refine wpAny_bind ((PySem.W.looks_subIn I.kIn e).here ?_)
    simp only [Bool.false_eq_true, if_false]
    refine wpAny_bind (wpAny_mono one (fun r s' z => ?_) fun _ _ e => e)
    obtain ⟨v, rfl, hq⟩ := z
    exact wpAny_pure hq
  · refine wpAny_bind (wpAny_pure ?_)
    simp only [Bool.false_eq_true, if_false]
    refine wpAny_bind (wpAny_mono one (fun r s' z => ?_) fun _ _ e => e)
    obtain ⟨v, rfl, hq⟩ := z
    exact wpAny_pure hq
end
end KwX

/-! try: body / except (A, B) as n: suite, where the error is kept: behind the suite the error's object is known -/
namespace KwX
open PySem PySem.Spec PySem.Calls PyProof.Rows L2 StX
/-- an error that was caught: its class, its own dict -/
def Caught (cls : Value) (d : Option Addr) (a : Addr) : HO := .ext fun h => ∃ oe vs, h.get? a = some oe ∧ Zc cls d oe ∧ oe.data = .fields vs
theorem caught_ok {P : Program} {w : World} {H : Hp} {h : Heap} {cls : Value} {d : Option Addr} {a : Addr} {oe : Obj} {vs : Array Value} (e : h.get? a = some oe) (z : Zc cls d oe) (f : oe.data = .fields vs) : ObjOk P w H h a (Caught cls d a) :=
  ⟨⟨oe, vs, e, z, f⟩, ⟨oe, e⟩, fun h1 h2 q st => by
    obtain ⟨o1, v1, e1, z1, f1⟩ := q
    exact ⟨o1, v1, st _ e1, z1, f1⟩⟩
section
variable {X : Cx} {pins : List (Addr × Obj)} {σ : L2.St} {H : Hp} {s : Shared}
/-- a pinned object that was not there at the frame's start is tracked from now on -/
theorem track {a : Addr} {o : Obj} {u : HO} (I : Inv X ((a, o) :: pins) σ H s) (h0 : X.s_0.heap.get? a = none) (hc : ∀ y c, X.env.cells.lookup y = some c → c ≠ a) (hp : ∀ p ∈ X.pn ++ pins, p.1 ≠ a) (new : ObjOk X.prog X.w (upd H a u) s.heap a u) :
    Inv X pins σ (upd H a u) s := by
  obtain ⟨ho, hn, hL, hF, hv⟩ := I.pin (a, o) (List.mem_append_right _ List.mem_cons_self)
  have old : ∀ b v, H b = some v → upd H a u b = some v := fun b v q => by
    rw [upd_ne (fun z => by rw [z, show H a = none from hn] at q; cases q)]
    exact q
  refine ⟨I.ok, I.os, I.bare, ⟨I.base.keep, I.base.slot, fun b v q n hx => ?_, I.base.there, fun b xs q => old _ _ (I.base.tups b xs q), fun b v w q => old _ _ (I.base.frzs b v w q), fun b ps q => ?_⟩, I.loc, I.cell, ?_, fun y c q => ?_, fun p q => ?_, fun b v q => ?_, I.len⟩
  · rw [upd_ne (fun z => by rw [z, h0] at q; cases q)]
    exact I.base.free b v q n hx
  · obtain ⟨more, e⟩ := I.base.tbls b ps q
    exact ⟨more, old _ _ e⟩
  · rw [upd_ne (Ne.symm hL)]
    exact I.free
  · rw [upd_ne (hc y c q)]
    exact I.freeC y c q
  · have q' : p ∈ X.pn ++ ((a, o) :: pins) := by
      rcases List.mem_append.mp q with z | z
      · exact List.mem_append_left _ z
      · exact List.mem_append_right _ (List.mem_cons_of_mem _ z)
    obtain ⟨p1, p2, p3⟩ := I.pin p q'
    exact ⟨p1, by rw [upd_ne (hp p q)]; exact p2, p3⟩
  · by_cases e : b = a
    · subst e
      rw [upd_same] at q
      cases q
      exact new
    · rw [upd_ne e] at q
      refine (I.hok b v q).stay (fun _ _ _ z => z) (fun c z => old _ _ z) fun c xs z => old _ _ z
end
/-- what the clause 'except (A, B) as n' wishes of an error of the body -/
def endsKept (D : Ends) (i : Nat) (cls : Value) (d : Option Addr) (a : Addr) : Ends where
  nx := fun σ' H' => H' a = none → D.nx (σ'.set i none) (upd H' a (Caught cls d a))
  rt := fun v H' => H' a = none → D.rt v (upd H' a (Caught cls d a))
  bk := fun σ' H' => H' a = none → D.bk (σ'.set i none) (upd H' a (Caught cls d a))
  ct := fun σ' H' => H' a = none → D.ct (σ'.set i none) (upd H' a (Caught cls d a))
def wKeep (K : PySem.W.Frag) (cs : List Value) (i : Nat) (ts : Addr → Value → Option Addr → TS) (Wout : WX) (D : Ends) : WX := fun cls d σ H =>
  ∃ b, PySem.W.exmAny K cls cs = some b ∧ (b = true → ∀ a, H a = none → ts a cls d (endsKept D i cls d a) (σ.set i (some (.ref a))) H) ∧ (b = false → Wout cls d σ H)
theorem flying_push {B : Heap} {l : List Env} {a : Addr} {Z : Obj → Prop} {h : Heap} (f : HandSPX.FlyingZ B l a Z h) (o : Obj) : HandSPX.FlyingZ B l a Z (h.push o) := by
  obtain ⟨f1, f2, f3, oe, vs, T, oT, ts, e1, z, e2, e3, e4, e5, e6, e7, e8⟩ := f
  refine ⟨fun b x q => Heap.get?_push_of_some _ (f1 b x q), f2, Heap.FunFrames.of_keeps (fun b x q _ => ⟨x, Heap.get?_push_of_some _ q, rfl⟩) f3, oe, vs, T, oT, ts, Heap.get?_push_of_some _ e1, z, e2, e3, e4, e5, Heap.get?_push_of_some _ e6, e7, e8⟩
section
variable {X : Cx} {x1 x2 n : Str} {c1 c2 : Value} {i tk0 : Nat} {body suite : List Stmt} {b₀ : Stmt} {np1 np2 tpos pos pos' : Pos} {tb : WX → TS} {ts : Addr → Value → Option Addr → TS} {Wout : WX}
theorem ps_try_keep (hs : X.stack = X.env :: X.outer) (hf : X.env.frame = some X.env.locals) (hex : X.ex = []) (hN : X.N.Nodup) (hi : X.N[i]? = some n) (hln : X.env.kindOf n = some .local) (hc1 : Names X x1 c1) (hc2 : Names X x2 c2) (tk : Takes X Wout)
    (hb : ∀ (W : WX) (pn : List (Addr × Obj)) (xe : Value → Shared → Prop), Takes (X.tr pn xe) W → PassesOwn (model X.prog X.w) X.A X.env xe → PSs (X.tr pn xe) body (tb W))
    (hsu : ∀ (a : Addr) (oe : Obj) (cls : Value) (d : Option Addr) (pn : List (Addr × Obj)), Zc cls d oe → (∃ vs, oe.data = .fields vs) → PSs (X.suite a ((a, oe) :: pn)) (b₀ :: suite) (ts a cls d)) :
    PS X (.Try body [.ExceptHandler (some (.Tuple [.Name x1 np1, .Name x2 np2] tk0 tpos)) (some n) (b₀ :: suite) pos'] [] [] pos) (fun D σ H => tb (wKeep X.K [c1, c2] i ts Wout D) D σ H) := by
  constructor
  intro pins s σ H D I h
  have ok := I.ok
  have frames : X.A.frames = some (X.env :: X.outer) := ok.frames.trans (by rw [hs])
  have hloc : Loc X.env.scope n := .inl hln
  let clause : List ExceptHandler := [.ExceptHandler (some (.Tuple [.Name x1 np1, .Name x2 np2] tk0 tpos)) (some n) (b₀ :: suite) pos']
  let wish : Value → Shared → Prop := fun e s₁ => wpAny (model X.prog X.w) X.A (noteFrame e X.env) (fun _ s₂ => wpAny (model X.prog X.w) X.A (setFlight e none) (fun _ s₃ => wpAny (model X.prog X.w) X.A (handleBy e X.env clause) (SP X pins D) X.xe s₃) X.xe s₂) X.xe s₁
  have caught : Takes (X.tr (X.pn ++ pins) wish) (wKeep X.K [c1, c2] i ts Wout D) := by
    intro u s' xx
    obtain ⟨a, B, sI, pins', σ', H', cls, d, rfl, J', nb, up, sky, na, os, ag, b, hb1, hyes, hno⟩ := xx
    have J : Inv X pins σ' H' sI := J'.ofTry ok
    have sky' : Sky B (X.env :: X.outer) a (Zc cls d) X.env.locals s'.heap := hs ▸ sky
    show wpAny (model X.prog X.w) X.A (noteFrame (.ref a) X.env) _ _ _
    refine Sky.land Zc.steady frames hf sky' fun h3 fl3 up3 => ?_
    have J3 : Inv X pins σ' H' { s' with heap := h3 } := J.landed nb fl3.1 (up.trans up3) os ag
    obtain ⟨oe3, vs3, he3, hz3, hd3⟩ := fl3.there
    have apart : ∀ {h : Heap} {o : Obj} {vs : Array Value}, h.FunFrames B (X.env :: X.outer) → h.get? a = some o → o.data = .fields vs → a ∉ frs (X.env :: X.outer) := by
      intro h o vs ff e dd hm
      obtain ⟨_, o', e', hnf⟩ := ff.mem hm
      rw [e] at e'
      cases e'
      exact hnf _ dd
    have nfr := apart fl3.2.2.1 he3 hd3
    have nL : a ≠ X.env.locals := by
      intro z
      exact nfr (List.mem_filterMap.mpr ⟨X.env, List.mem_cons_self, by rw [hf, z]⟩)
    have nF : a ∉ X.fs := by
      intro hm
      obtain ⟨e, he, q⟩ := List.mem_filterMap.mp hm
      exact nfr (List.mem_filterMap.mpr ⟨e, List.mem_cons_of_mem _ he, q⟩)
    have Ba : B.get? a = none := fl3.2.1
    have nStk : a ∉ frs X.stack := by rw [hs]; exact nfr
    have sIa : sI.heap.get? a = none := by
      cases q : sI.heap.get? a with
      | none => rfl
      | some o =>
        have z := nb a o q nStk
        rw [Ba] at z
        cases z
    have s0a : X.s_0.heap.get? a = none := by
      cases q : X.s_0.heap.get? a with
      | none => rfl
      | some o =>
        obtain ⟨o', z⟩ := J.base.there a o q (by rw [hex]; simp)
        rw [sIa] at z
        cases z
    have notCell : ∀ y c, X.env.cells.lookup y = some c → c ≠ a := by
      intro y c e z
      obtain ⟨v, o, ho, hd⟩ := J.cell y c e
      rw [z, sIa] at ho
      cases ho
    have notPin : ∀ p ∈ X.pn ++ pins, p.1 ≠ a := by
      intro p hp z
      have q := (J.pin p hp).1
      rw [z, sIa] at q
      cases q
    have S3 := J3.suite he3 hd3 na nL nF
    refine wpAny_handleBy_cons (codeAny_handlers_test ?_) (by intro q; cases q)
    have name : ∀ {y : Str} {c : Value} {np : Pos} {Q : Value → Shared → Prop} {E : Value → Shared → Prop}, Names X y c → Q c { s' with heap := h3 } → wpAny (model X.prog X.w) (X.A.mark (some (.ref a))) (eval (.Name y np) X.env) Q E { s' with heap := h3 } := by
      intro y c np Q E hc q
      obtain ⟨hg, hdbg, hm | ⟨hm, hv, hnn⟩⟩ := hc
      · exact ld_glob (X := X.suite a ((a, oe3) :: (X.pn ++ pins))) S3 hg hm q hdbg
      · exact ld_blt (X := X.suite a ((a, oe3) :: (X.pn ++ pins))) S3 hg hm hv q hnn hdbg
    refine Tuple_ (spliced_more (name hc1 (spliced_more (name hc2 (spliced_none ?_)))))
    refine wpAny_newObj_type ?_
    let tup : Obj := { cls := .type "tuple", data := .seq [c1, c2].toArray }
    have fl4 : HandSPX.FlyingZ B (X.env :: X.outer) a (Zc cls d) (h3.push tup) := flying_push fl3 tup
    have up4 : h3.UpToSlots (h3.push tup) := Heap.UpToSlots.of_keeps fun _ _ q => Heap.get?_push_of_some _ q
    have J4 : Inv X pins σ' H' { s' with heap := h3.push tup } := J3.kept (t' := s'.toks) fun _ _ q => Heap.get?_push_of_some _ q
    have he4 : (h3.push tup).get? a = some oe3 := Heap.get?_push_of_some _ he3
    have LT : PySem.W.Looks (model X.prog X.w) (h3.push tup) (typeOf (.ref a)) cls := fun A Q E s k q => wpAny_typeOf_ref (k _ _ he4) (by rw [hz3.1]; exact q)
    have LM := PySem.W.exm_tup2 (M := model X.prog X.w) (tp := h3.objs.size) J4.kIn LT (Heap.get?_push_size _ rfl) hb1
    refine LM.here ?_
    cases b with
    | true =>
      refine codeAny_handlers_suite_as ?_
      refine HandSPX.lands_againZ fl4 fun h5 fl5 up5 => ?_
      have J5 : Inv X pins σ' H' { s' with heap := h5 } := J.landed nb fl5.1 (((up.trans up3).trans up4).trans up5) os ag
      obtain ⟨oe5, vs5, he5, hz5, hd5⟩ := fl5.there
      have S5 := J5.suite he5 hd5 na nL nF
      refine store_ok (X := X.suite a ((a, oe5) :: (X.pn ++ pins))) (v := .ref a) S5 hN hi hloc rfl (fun s6 S6 => ?_) (.inr hln)
      refine wpAny_mono ((hsu a oe5 cls d (X.pn ++ pins) hz5 ⟨_, hd5⟩).run [] s6 _ H' _ S6 (hyes rfl a na)) (fun f s7 hsp => ?_) (fun _ _ z => False.elim z)
      have last : ∀ {σ7 : L2.St} {H7 : Hp} {Q : Shared → Prop}, Inv (X.suite a ((a, oe5) :: (X.pn ++ pins))) [] σ7 H7 s7 → (H7 a = none → ∀ s8, Inv X pins (σ7.set i none) (upd H7 a (Caught cls d a)) s8 → Q s8) →
          wpAny (model X.prog X.w) X.A (do bindName X.env n .none; unbindBehindTheSuite X.env n pos') (fun _ s8 => Q s8) X.xe s7 := by
        intro σ7 H7 Q S7 hq
        have pa := S7.pin (a, oe5) (List.mem_append_left _ List.mem_cons_self)
        have U : Inv X ((a, oe5) :: pins) σ7 H7 s7 := by
          have U0 : Inv X pins σ7 H7 s7 := S7.unsuite ok
          refine U0.pins_of fun p hp => ?_
          rcases List.mem_cons.mp hp with e | e
          · subst e
            exact pa
          · exact U0.pin p (List.mem_append_right _ e)
        refine gone_ok U hN hi hln fun s8 J8 => hq pa.2.1 s8 ?_
        have p8 := J8.pin (a, oe5) (List.mem_append_right _ List.mem_cons_self)
        exact track J8 s0a notCell notPin (caught_ok p8.1 hz5 hd5)
      have pinA : ∀ {σ7 : L2.St} {H7 : Hp}, Inv (X.suite a ((a, oe5) :: (X.pn ++ pins))) [] σ7 H7 s7 → H7 a = none := fun S7 => (S7.pin (a, oe5) (List.mem_append_left _ List.mem_cons_self)).2.1
      cases f with
      | next =>
        obtain ⟨σ7, H7, S7, q7⟩ := hsp
        exact last S7 fun na s8 J8 => ⟨_, _, J8, q7 na⟩
      | brk =>
        obtain ⟨σ7, H7, S7, q7⟩ := hsp
        exact last S7 fun na s8 J8 => ⟨_, _, J8, q7 na⟩
      | cont =>
        obtain ⟨σ7, H7, S7, q7⟩ := hsp
        exact last S7 fun na s8 J8 => ⟨_, _, J8, q7 na⟩
      | ret u =>
        obtain ⟨v7, σ7, H7, S7, r7, q7⟩ := hsp
        exact last S7 fun na s8 J8 => ⟨_, _, _, J8, r7, q7 na⟩
    | false =>
      show wpAny _ X.A (handleBy (.ref a) X.env []) _ _ _
      refine wpAny_handleBy_nil ?_
      obtain ⟨k1, k2, k3, oe, vs, T, oT, ts', he, hz, hd, h1, hr⟩ := id fl4
      unfold PySem.passOn
      refine wpAny_bind (wpAny_field he hd h1 ?_)
      rw [if_neg (by simp)]
      have fin : wpAny (model X.prog X.w) X.A (setFlight (.ref a) X.env.frame) (fun _ s5 => wpAny (model X.prog X.w) X.A (throw (.ref a) : Sem Flow) (SP X pins D) X.xe s5) X.xe { s' with heap := h3.push tup } := by
        rw [hf]
        refine HandSPX.setFlight_upZ fl4 fun h5 hh5 up5 => wpAny_throw (tk _ _ ?_)
        exact ⟨a, B, sI, pins, σ', H', cls, d, rfl, J, nb, ((up.trans up3).trans up4).trans up5, .inr (.inr (by rw [hs]; exact hh5)), na, os, ag, hno rfl⟩
      first
        | exact wpAny_bind fin
        | exact wpAny_bind (wpAny_pure (wpAny_bind fin))
  refine wpAny_Try_except (wpAny_mono ((hb (wKeep X.K [c1, c2] i ts Wout D) (X.pn ++ pins) wish caught PassesOwn.looking).run [] s σ H D (I.toTry _) h) (fun f s1 hsp => ?_) (fun e s1 he => he))
  cases f with
  | next =>
    obtain ⟨σ', H', J', q⟩ := hsp
    exact wpAny_execs_nil ⟨σ', H', J'.ofTry ok, q⟩
  | brk =>
    obtain ⟨σ', H', J', q⟩ := hsp
    exact ⟨σ', H', J'.ofTry ok, q⟩
  | cont =>
    obtain ⟨σ', H', J', q⟩ := hsp
    exact ⟨σ', H', J'.ofTry ok, q⟩
  | ret u =>
    obtain ⟨v, σ', H', J', r, q⟩ := hsp
    exact ⟨v, σ', H', J'.ofTry ok, r, q⟩
end
end KwX

/-! sets of texts: set(list of texts), sorted(set) -/
namespace TsX
open PySem PySem.Spec PyProof.Rows L2 PySem.Froz
section
variable {P : Program} {w : World} {A : Around} {E : Value → Shared → Prop} {s : Shared} {h h' : Heap} {a : Addr} {l : List Str}
/-- the set of the texts l stands at a; it can be walked -/
def Txt (P : Program) (w : World) (h : Heap) (a : Addr) (l : List Str) : Prop :=
  ∃ D : SD, h.get? a = some (sObj "set" D) ∧ TxOk P w D l ∧ Ris D.2.2.place.toList ∧ (w.params.followText "set-order" = true ∨ D.2.2.led = true)
theorem Txt.at (x : Txt P w h a l) (k : ∀ o, h.get? a = some o → h'.get? a = some o) : Txt P w h' a l := by
  obtain ⟨D, e, r⟩ := x
  exact ⟨D, k _ e, r⟩
theorem tail_walk {ep : Nat} {es : Array (Int × Value)} {t : SetTable} {b : Bool} (r : Ris t.place.toList) : Ris (tailTx ep es t b).2.2.place.toList ∧ (tailTx ep es t b).2.2.led = t.led := by
  unfold tailTx
  split
  · exact ⟨relayAll_ris t es _, relayAll_led t es _⟩
  · exact ⟨r, rfl⟩
theorem add_walk {k : Int} {v : Value} {D : SD} (r : Ris D.2.2.place.toList) : Ris (addTx k v D).2.2.place.toList ∧ (addTx k v D).2.2.led = D.2.2.led := by
  have r1 := layNew_ris D.2.2 D.1 k v r
  have l1 := layNew_led D.2.2 D.1 k v
  unfold addTx
  by_cases c : (layNew D.2.2 D.1 k v).2.1.plain = true
  · rw [if_pos c]
    obtain ⟨x, y⟩ := tail_walk (ep := D.2.1) (es := (layNew D.2.2 D.1 k v).1) (b := (layNew D.2.2 D.1 k v).2.2.1) (t := { (layNew D.2.2 D.1 k v).2.1 with plain := false }) r1
    exact ⟨x, y.trans l1⟩
  · rw [if_neg c]
    obtain ⟨x, y⟩ := tail_walk (ep := D.2.1) (es := (layNew D.2.2 D.1 k v).1) (b := (layNew D.2.2 D.1 k v).2.2.1) r1
    exact ⟨x, y.trans l1⟩
/-- the members, the new one among them -/
def withT (l : List Str) (k : Str) : List Str := if k ∈ l then l else k :: l
theorem put_text {k : Str} {u : Tok} {Q : Bool → Shared → Prop} (x : Txt P w s.heap a l) (room : l.length + 1 < scanBound)
    (hQ : ∀ h' b, Heap.SameBut a s.heap h' → Txt P w h' a (withT l k) → Q b { s with heap := h' }) : wpAny (model P w) A (setAddHashed a (.str k u) (hashStr w k)) Q E s := by
  obtain ⟨D, ho, ok, ris, led⟩ := x
  by_cases hk : k ∈ l
  · have same : withT l k = l := if_pos hk
    rw [same] at hQ
    obtain ⟨es, ep, t⟩ := D
    have few : es.size < scanBound := by
      have e : es.size = l.length := ok.sz
      omega
    obtain ⟨e, he, hit⟩ := (ok.mem k).mp hk
    have there : ∃ j, List.findIdx? (fun e => (strKind P w).is k e.2) es.toList = some j := by
      cases q : List.findIdx? (fun e => (strKind P w).is k e.2) es.toList with
      | some j => exact ⟨j, rfl⟩
      | none =>
        have z := List.findIdx?_eq_none_iff.mp q e he
        rw [hit] at z
        cases z
    obtain ⟨j, hj⟩ := there
    unfold setAddHashed setAddHashedIn
    refine wpAny_holding (wpAny_bind (wpAny_setState_of ho rfl ok.fit ?_))
    dsimp only
    rw [byScan_of rfl few ok.el]
    simp only [↓reduceIte]
    unfold setAddByScan
    refine wpAny_bind (wpAny_bind (wpAny_rule (wpAny_bind (wpAny_setScan_of (knd := strKind P w) (k := k) (is_str k u) ho rfl ok.fit ok.el ?_))))
    rw [hj]
    exact wpAny_pure (wpAny_pure (hQ s.heap _ (Heap.SameBut.refl a s.heap) ⟨_, ho, ok, ris, led⟩))
  · have more : withT l k = k :: l := if_neg hk
    rw [more] at hQ
    refine add_x ho ok hk room (hQ _ _ (Heap.SameBut.update s.heap a _) ?_)
    obtain ⟨r1, l1⟩ := add_walk (k := hashStr w k) (v := .str k u) ris
    exact ⟨_, get_upd _ ho rfl, add_ok u ok, r1, led.imp id fun z => by rw [l1]; exact z⟩
/-- the members behind the texts xs, put in one by one -/
def allT (xs : List Str) : List Str := xs.foldl withT []
theorem withT_mem {l : List Str} {k x : Str} : x ∈ withT l k ↔ x ∈ l ∨ x = k := by
  unfold withT
  split
  · rename_i q
    exact ⟨.inl, fun z => z.elim id fun e => e ▸ q⟩
  · rw [List.mem_cons]
    exact Or.comm
theorem withT_nodup {l : List Str} {k : Str} (h : l.Nodup) : (withT l k).Nodup := by
  unfold withT
  split
  · exact h
  · rename_i q
    exact List.nodup_cons.mpr ⟨q, h⟩
theorem withT_len {l : List Str} {k : Str} : (withT l k).length ≤ l.length + 1 := by
  unfold withT
  split
  · omega
  · exact Nat.le_refl _
theorem fold_mem : ∀ (xs : List Str) (l : List Str) (x : Str), x ∈ xs.foldl withT l ↔ x ∈ l ∨ x ∈ xs
  | [], l, x => by simp
  | y :: xs, l, x => by
    rw [List.foldl_cons, fold_mem xs, withT_mem, List.mem_cons]
    exact or_assoc
theorem fold_nodup : ∀ (xs : List Str) (l : List Str), l.Nodup → (xs.foldl withT l).Nodup
  | [], _, h => h
  | y :: xs, l, h => fold_nodup xs _ (withT_nodup h)
theorem fold_len : ∀ (xs : List Str) (l : List Str), (xs.foldl withT l).length ≤ l.length + xs.length
  | [], l => Nat.le_refl _
  | y :: xs, l => by
    have a := fold_len xs (withT l y)
    have b := withT_len (l := l) (k := y)
    rw [List.foldl_cons, List.length_cons]
    omega
theorem allT_mem {xs : List Str} {x : Str} : x ∈ allT xs ↔ x ∈ xs := by
  unfold allT
  rw [fold_mem]
  simp
theorem allT_nodup (xs : List Str) : (allT xs).Nodup := fold_nodup xs [] List.nodup_nil
theorem allT_len (xs : List Str) : (allT xs).length ≤ xs.length := by
  have h := fold_len xs []
  simpa [allT] using h
theorem allT_snoc {xs : List Str} {i : Nat} {z : Str} (h : xs[i]? = some z) : allT (xs.take (i + 1)) = withT (allT (xs.take i)) z := by
  unfold allT
  rw [List.take_add_one, h, List.foldl_append]
  rfl
/-- the loop that puts what is walked into the set -/
theorem put_all {I : Addr} {fp wr : List Addr} {G : Array GenState → Array GenState → Prop} {n : Nat} {Pv : Nat → Value → Prop} {St : Nat → Shared → Prop} {R : Result → Shared → Prop}
    (W : WalksS P w A.in1 I fp wr G n Pv St) (S : Addr) (apart : S ∉ fp) (xs : List Str) (hn : n = xs.length) (few : xs.length + 1 < scanBound) (val : ∀ i v, Pv i v → ∃ k t, xs[i]? = some k ∧ v = .str k t) :
    ∀ (left i : Nat) (s : Shared), n - i = left → i ≤ n → St i s → Txt P w s.heap S (allT (xs.take i)) →
      (∀ s', Moved (S :: wr) G s s' → Txt P w s'.heap S (allT xs) → R (.ok (.ret .none)) s') → codeAny (model P w) A (.builtin "set.update.loop" ⟨[.ref S, .ref I], []⟩) R s := by
  have nw : S ∉ wr := fun z => apart (W.sub _ z)
  have wider : ∀ b ∈ wr, b ∈ S :: wr := fun b z => List.mem_cons_of_mem _ z
  intro left
  induction left with
  | zero =>
    intro i s hl hi hst hS hR
    have all : xs.take i = xs := List.take_of_length_le (by omega)
    have top : i = n := by omega
    subst top
    rw [all] at hS
    refine codeAny_builtin F.entry_set_update_loop ?_
    rw [Around.under_plainId F.plain_set_update_loop _]
    show wpAny _ A.in1 (pyNext (.ref I) >>= _) _ _ s
    refine wpAny_bind (W.done s _ _ hst fun s' hm => ?_)
    show wpAny _ A.in1 (ret Value.none) _ _ s'
    exact wpAny_pure (hR s' (hm.mono wider) (hS.at fun o e => hm.heap S o nw e))
  | succ left ih =>
    intro i s hl hi hst hS hR
    have lt : i < n := by omega
    refine codeAny_builtin F.entry_set_update_loop ?_
    rw [Around.under_plainId F.plain_set_update_loop _]
    show wpAny _ A.in1 (pyNext (.ref I) >>= _) _ _ s
    refine wpAny_bind (W.item i s _ _ lt hst fun v s1 hv st1 hm => ?_)
    obtain ⟨z, t, hz, rfl⟩ := val i v hv
    have S1 : Txt P w s1.heap S (allT (xs.take i)) := hS.at fun o e => hm.heap S o nw e
    show wpAny _ A.in1 (holding [Value.str z t] (setAdd S (.str z t)) >>= _) _ _ s1
    refine wpAny_bind (wpAny_holding ?_)
    unfold setAdd
    refine wpAny_holding (wpAny_bind ((strKind P w).pyHash (k := z) (is_str z t) ?_))
    have room : (allT (xs.take i)).length + 1 < scanBound := by
      have q := allT_len (xs.take i)
      have q2 : (xs.take i).length ≤ xs.length := by rw [List.length_take]; omega
      omega
    refine put_text (s := { s1 with toks := s1.toks + 1 }) S1 room fun h' b sb S2 => ?_
    rw [← allT_snoc hz] at S2
    refine wpAny_pure ⟨plainId_quiet F.plain_set_update_loop _, ih (i + 1) _ (by omega) lt (W.frame _ s1 _ _ st1 (Nat.le_succ _) fun b hb o e => ?_) S2 fun s2 hm2 hS2 => ?_⟩
    · rw [sb.2 b fun z => apart (by rw [← z]; exact hb)]
      exact e
    · refine hR s2 (Moved.trans W.gtrans ((hm.mono wider).then_heap (Nat.le_succ _) fun b o hb e => ?_) hm2) hS2
      rw [sb.2 b fun z => hb (by rw [z]; exact List.mem_cons_self)]
      exact e
end
end TsX

namespace TsX
open PySem PySem.Spec PyProof.Rows L2 PySem.Froz
abbrev newSet (w : World) : Obj := { cls := .type "set", dict := none, data := .set #[] 0 (.fresh 0 0 (!w.params.followText "set-order")) }
section
variable {P : Program} {w : World} {A : Around} {E : Value → Shared → Prop} {s : Shared} {h h' : Heap} {a : Addr} {l : List Str}
theorem new_txt (e : h.get? a = some (newSet w)) : Txt P w h a [] := by
  refine ⟨(#[], 0, .fresh 0 0 (!w.params.followText "set-order")), e, TxOk.nil (by rfl), List.Pairwise.nil, ?_⟩
  show _ ∨ (!w.params.followText "set-order") = true
  cases w.params.followText "set-order" with
  | true => exact .inl rfl
  | false => exact .inr rfl
theorem strs_get : ∀ {us : List Value} {xs : List Str} (i : Nat) (v : Value), StrsAre us xs → us[i]? = some v → ∃ k t, xs[i]? = some k ∧ v = .str k t
  | _, _, _, _, .nil, e => by simp at e
  | _, _, 0, v, .cons y t r, e => by
    simp at e
    exact ⟨y, t, rfl, e.symm⟩
  | _, _, i + 1, v, .cons y t r, e => by
    obtain ⟨k, t', e1, e2⟩ := strs_get i v r (by simpa using e)
    exact ⟨k, t', by simpa using e1, e2⟩
theorem strs_size : ∀ {us : List Value} {xs : List Str}, StrsAre us xs → us.length = xs.length
  | _, _, .nil => rfl
  | _, _, .cons y t r => congrArg Nat.succ (strs_size r)
set_option maxHeartbeats 8000000 in
/-- set(xs), a list of texts -/
theorem set_list {p : Addr} {items : Array Value} (xs : List Str) {Q : Value → Shared → Prop} (hh : A.handled = none) (hl : s.heap.IsList p items) (hit : StrsAre items.toList xs) (few : xs.length + 1 < scanBound)
    (h : ∀ (h' : Heap) (tk : Nat), Txt P w h' s.heap.objs.size (allT xs) → (∀ b o, s.heap.get? b = some o → h'.get? b = some o) → Q (.ref s.heap.objs.size) { s with heap := h', toks := tk }) :
    wpAny (model P w) A (call (.type "set") [.ref p]) Q E s := by
  have many : items.size = xs.length := by
    rw [← Array.length_toList]
    exact strs_size hit
  have made := F.called_set.made
  have under := F.called_set.sub
  obtain ⟨c, tl, order⟩ := F.called_set.mro
  apply wpAny_call
  apply codeAny_of_tree
  show wpAny _ _ (callAny (.type "set") _) _ _ _
  refine wpAny_pure ⟨Code.quiet_builtin _ (by decide +kernel), codeAny_builtin F.entry_type_call ?_⟩
  rw [Around.under_plain (weight_type_call_type "set" [.ref p] []) rfl]
  have k1 := F.called_set.notType
  have k2 := F.called_set.canCreate
  have k3 := F.typeCall_set_1 (.ref p)
  repeat (any_goals (first | assumption | wp_step))
  refine codeAny_mono (code_set_led1 (.ref p) (E := E) (Q₁ := fun obj s₁ => obj = .ref s.heap.objs.size ∧ s₁ = { s with heap := s.heap.push (newSet w) }) ⟨rfl, rfl⟩) fun r s1 hr => ?_
  cases r with
  | error e => exact hr
  | ok fl =>
    cases fl with
    | next => exact hr.elim
    | brk => exact hr.elim
    | cont => exact hr.elim
    | ret obj =>
      obtain ⟨rfl, rfl⟩ := hr
      have at0 : (s.heap.push (newSet w)).get? s.heap.objs.size = some (newSet w) := Heap.get?_push_size _ rfl
      have ty0 : Shared.TypeIs { s with heap := s.heap.push (newSet w) } (.ref s.heap.objs.size) "set" := ⟨_, at0, rfl⟩
      have look := F.called_set.init.lookup
      have bind := F.called_set.init.bind (.ref s.heap.objs.size)
      repeat (any_goals (first | assumption | wp_step))
      refine codeAny_mono (codeAny_call_builtin (R := wants (fun r s₂ => r = .none ∧ ∃ h' tk, s₂ = { s with heap := h', toks := tk } ∧ Txt P w h' s.heap.objs.size (allT xs) ∧
          (∀ b o, s.heap.get? b = some o → h'.get? b = some o)) E) F.called_set.init.plain F.entry_set_init (check_set_init_1 ty0 ?_)) fun r2 s2 hr2 => ?_
      · obtain ⟨⟨ocls, odict, odata, oslots⟩, hol, hcl, nl, hdl⟩ := hl
        dsimp only at hcl hdl
        subst hcl hdl
        have kept : (s.heap.push (newSet w)).get? p = some { cls := .type "list", dict := odict, data := .seq items nl, slots := oslots } := Heap.get?_push_of_some _ hol
        have isl : (s.heap.push (newSet w)).IsList p items := ⟨_, kept, rfl, nl, rfl⟩
        have j1 := F.sub_list_set
        have j2 := F.sub_list_frozenset
        have j3 : (Value.type "list" == Value.type "dict") = false := by decide
        unfold Builtin.«set.__init__» noKeywords Builtin.Frozenset.updateFrom
        generalize hPI : pyIter = PI
        wp_walk
        subst hPI
        refine wpAny_pyIter_list isl ?_
        refine wpAny_bind (wpAny_runValue ?_)
        have low : p < s.heap.objs.size := Heap.lt_size hol
        have quiet : A.in1.in1.in1.handled = none := by simp [hh]
        have grown : (s.heap.push (newSet w)).objs.size = s.heap.objs.size + 1 := Heap.size_push ..
        have ne1 : p ≠ (s.heap.push (newSet w)).objs.size := by
          rw [grown]
          exact Nat.ne_of_lt (Nat.lt_succ_of_lt low)
        have ne2 : s.heap.objs.size ∉ [(s.heap.push (newSet w)).objs.size, p] := by
          rw [grown]
          simp only [List.mem_cons, List.not_mem_nil, or_false, not_or]
          exact ⟨Nat.ne_of_lt (Nat.lt_succ_self _), Nat.ne_of_gt low⟩
        refine put_all ((Walks.list quiet _ p ne1 items).toS) s.heap.objs.size ne2 xs many few (fun i v hv => strs_get i v hit (by rw [Array.getElem?_toList]; exact hv)) (items.size - 0) 0 _ (by omega) (Nat.zero_le _)
          ⟨⟨_, Heap.get?_push_size _ rfl, rfl, rfl⟩, isl.push _⟩ ?_ ?_
        · exact new_txt (Heap.get?_push_of_some _ at0)
        · intro s' hm hS
          obtain ⟨h', g2, d', tk', os'⟩ := s'
          have e1 : g2 = s.gens := hm.gens
          have e2 : d' = s.drawn := hm.drawn
          have e3 : os' = s.os := hm.os
          subst e1 e2 e3
          show wpAny _ _ _ _ _ _
          refine wpAny_pure ?_
          show wpAny _ _ (ret Value.none) _ _ _
          refine wpAny_pure ⟨rfl, h', tk', rfl, hS, fun b o e => ?_⟩
          have lt : b < s.heap.objs.size := Heap.lt_size e
          refine hm.heap b o ?_ (Heap.get?_push_of_some _ (Heap.get?_push_of_some _ e))
          simp only [List.mem_cons, List.not_mem_nil, or_false, not_or]
          refine ⟨Nat.ne_of_lt lt, ?_⟩
          rw [grown]
          exact Nat.ne_of_lt (Nat.lt_succ_of_lt lt)
      · cases r2 with
        | error e => exact hr2
        | ok fl2 =>
          cases fl2 with
          | ret r =>
            obtain ⟨rfl, h', tk, rfl, hS, hk⟩ := hr2
            repeat (any_goals (first | assumption | wp_step))
            exact h _ _ hS hk
          | _ => exact hr2.elim
theorem perm_sub : ∀ (l ks : List Str), l.Nodup → (∀ k ∈ l, k ∈ ks) → ks.length = l.length → ks.Perm l
  | [], ks, _, _, e => by
    have z := List.length_eq_zero_iff.mp e
    rw [z]
  | x :: r, ks, hn, sub, e => by
    obtain ⟨n1, n2⟩ := List.nodup_cons.mp hn
    have hx := sub x List.mem_cons_self
    refine (List.perm_cons_erase hx).trans ((perm_sub r (ks.erase x) n2 (fun k hk => ?_) ?_).cons x)
    · have ne : k ≠ x := fun z => n1 (z ▸ hk)
      exact (List.mem_erase_of_ne ne).mpr (sub k (List.mem_cons_of_mem _ hk))
    · rw [List.length_erase_of_mem hx, e, List.length_cons, Nat.add_sub_cancel]
theorem txt_strs {D : SD} (ok : TxOk P w D l) (hn : l.Nodup) : ∀ (vs : List Value), vs.Perm (D.1.toList.map (·.2)) → ∃ ks, StrsAre vs ks ∧ ks.Perm l := by
  -- the members, as texts
  have all : ∀ v ∈ D.1.toList.map (·.2), ∃ k t, v = .str k t ∧ k ∈ l := by
    intro v hv
    obtain ⟨e, he, q⟩ := List.mem_map.mp hv
    obtain ⟨⟨k, h1, _⟩, _⟩ := ok.el e he
    obtain ⟨t, ht⟩ := Value.isStrOf_shape (x := k) (v := e.2) h1
    exact ⟨k, t, by rw [← q, ht], (ok.mem k).mpr ⟨e, he, h1⟩⟩
  have text : ∀ (vs : List Value), (∀ v ∈ vs, ∃ k t, v = .str k t ∧ k ∈ l) → ∃ ks, StrsAre vs ks ∧ ks.length = vs.length ∧ ∀ k, k ∈ ks ↔ ∃ t, Value.str k t ∈ vs := by
    intro vs
    induction vs with
    | nil => exact fun _ => ⟨[], .nil, rfl, fun k => by simp⟩
    | cons v vs ih =>
      intro hv
      obtain ⟨k, t, rfl, _⟩ := hv v List.mem_cons_self
      obtain ⟨ks, h1, h2, h3⟩ := ih fun u hu => hv u (List.mem_cons_of_mem _ hu)
      refine ⟨k :: ks, .cons k t h1, by rw [List.length_cons, List.length_cons, h2], fun j => ?_⟩
      rw [List.mem_cons, h3]
      constructor
      · rintro (e | ⟨t', e⟩)
        · exact ⟨t, by rw [e]; exact List.mem_cons_self⟩
        · exact ⟨t', List.mem_cons_of_mem _ e⟩
      · rintro ⟨t', e⟩
        rcases List.mem_cons.mp e with e | e
        · injection e with e _
          exact .inl e
        · exact .inr ⟨t', e⟩
  intro vs pm
  obtain ⟨ks, h1, h2, h3⟩ := text vs fun v hv => all v (pm.mem_iff.mp hv)
  refine ⟨ks, h1, ?_⟩
  have len : ks.length = l.length := by
    rw [h2, pm.length_eq, List.length_map, Array.length_toList]
    exact ok.sz
  have sub : ∀ k ∈ l, k ∈ ks := by
    intro k hk
    obtain ⟨e, he, hi⟩ := (ok.mem k).mp hk
    obtain ⟨t, ht⟩ := Value.isStrOf_shape (x := k) (v := e.2) hi
    exact (h3 k).mpr ⟨t, pm.mem_iff.mpr (List.mem_map.mpr ⟨e, he, ht⟩)⟩
  exact perm_sub l ks hn sub len
/-- sorted(s), a set of texts with fewer than 64 members -/
theorem sorted_txt {Q : Value → Shared → Prop} (x : Txt P w s.heap a l) (hn : l.Nodup) (hh : A.handled = none) (h64 : l.length < 64)
    (hQ : ∀ s' p (out : Array Value) (c : Nat) (ys : List Str), (∀ b o, s.heap.get? b = some o → s'.heap.get? b = some o) → s'.gens = s.gens → s'.os = s.os → s.heap.objs.size ≤ p →
      s'.heap.get? p = some (seqObj "list" out c) → StrsAre out.toList ys → ys.Perm l → sortedS ys = true → Q (.ref p) s') :
    wpAny (model P w) A (call (.builtin "sorted") [.ref a]) Q E s := by
  obtain ⟨⟨es, ep, t⟩, ho, ok, ris, led⟩ := x
  have few : es.size < scanBound := by
    have e : es.size = l.length := ok.sz
    have z : scanBound = 4096 := by first | rfl | (unfold scanBound; rfl)
    omega
  refine Calls.call_function_entry kind_sorted plain_sorted entry_sorted (args_sorted1 _) ?_
  unfold Builtin.«sorted»
  refine wpAny_bind (m := checkCount "sorted" 1 1 _) (wpAny_pure ?_)
  refine wpAny_bind (collect_set (A := A.in1) hh ⟨_, ho, rfl, rfl⟩ ok.fit few ris led fun s1 vs k1 hz g1 o1 pm => ?_)
  obtain ⟨ks, hS, pk⟩ := txt_strs ok hn vs pm
  have len : vs.length = l.length := (strs_size hS).trans pk.length_eq
  refine wpAny_bind (wpAny_newList ?_ (by rw [len, sizeLine_eq]; omega))
  have at1 : (s1.heap.push (seqObj "list" vs.toArray 0)).get? s1.heap.objs.size = some (seqObj "list" vs.toArray 0) := Heap.get?_push_size _ rfl
  refine wpAny_bind (wpAny_holding (wpAny_call_entry slot_list_sort ⟨_, at1, rfl⟩ entry_list_sort
    (list_sort_treeK strKind_oneLt at1 hS.keysOf (fun v₁ v₂ rest e => keyKind_strs (by rw [← e]; exact hS)) (by rw [len]; exact h64) fun st' hp hs => ⟨_, rfl, ?_⟩) (args_list_sort _)))
  obtain ⟨ys, q1, q2, q3⟩ := sorted_out_str hS hp hs
  obtain ⟨c, hc⟩ := sortedHeap_at (vs := vs) (out := (arrOf st').map (·.2)) at1
  refine wpAny_pure ⟨_, rfl, hQ _ s1.heap.objs.size _ c ys (fun b u e => ?_) g1 o1 hz hc q1 (q2.trans pk) q3⟩
  have q := k1 b u e
  have lt := Heap.lt_size q
  show (sortedHeap (s1.heap.push (seqObj "list" vs.toArray 0)) s1.heap.objs.size vs _).get? b = some u
  rw [sortedHeap_old (Nat.ne_of_lt lt) (by rw [size_push']; exact Nat.lt_succ_of_lt lt)]
  exact Heap.get?_push_of_some _ q
end
/-! ### over the layer -/
def SetT (P : Program) (w : World) (a : Addr) (l : List Str) : HO := .ext fun h => Txt P w h a l
theorem setT_ok {P : Program} {w : World} {H : Hp} {h : Heap} {a : Addr} {l : List Str} (x : Txt P w h a l) : ObjOk P w H h a (SetT P w a l) := by
  refine ⟨x, ?_, fun h1 h2 x k => Txt.at x k⟩
  obtain ⟨D, e, _⟩ := x
  exact ⟨_, e⟩
section
variable {X : Cx}
def rSetT (X : Cx) : List V → Hp → VK → Prop := fun xs H Q => ∃ (p : Addr) (ks : List Str), xs = [.ref p] ∧ SqL X.K H p (ks.map V.str) ∧ ks.length < 1000 ∧ ∀ a, H a = none → Q (.ref a) (upd H a (SetT X.prog X.w a (allT ks)))
theorem call_setT (hc : X.calm = true) : CallR X (.type "set") (rSetT X) := by
  intro pins s σ H xs us Q I r h
  obtain ⟨p, ks, rfl, hs, h64, q⟩ := h
  obtain ⟨its, rv, hl, _⟩ := I.list hs
  rw [Vals.ref1 r]
  have z : scanBound = 4096 := by first | rfl | (unfold scanBound; rfl)
  refine set_list ks (I.ok.hd hc) hl.isList rv.strs (by omega) fun h' tk hx hk => ?_
  exact ⟨.ref _, upd H s.heap.objs.size (SetT X.prog X.w s.heap.objs.size (allT ks)), I.laid (t' := tk) hk (Nat.le_refl _) (setT_ok hx), rfl, q _ (I.hok.fresh (Nat.le_refl _))⟩
def rSortedT (X : Cx) : List V → Hp → VK → Prop := fun xs H Q => ∃ (a : Addr) (l : List Str), xs = [.ref a] ∧ H a = some (SetT X.prog X.w a l) ∧ l.Nodup ∧ l.length < 64 ∧ ∀ (ys : List Str) (p : Addr), ys.Perm l → sortedS ys = true → H p = none → Q (.ref p) (upd H p (.lst (ys.map V.str)))
theorem call_sortedT (hc : X.calm = true) : CallR X (.builtin "sorted") (rSortedT X) := by
  intro pins s σ H xs us Q I r h
  obtain ⟨a, l, rfl, ha, hn, h64, q⟩ := h
  have x : Txt X.prog X.w s.heap a l := (I.hok a _ ha).1
  rw [Vals.ref1 r]
  refine sorted_txt x hn (I.ok.hd hc) h64 fun s' p out c ys k g o hp hg hi hm hs => ?_
  have hlen : (ys.map V.str).length ≤ sizeLine := by rw [List.length_map, hm.length_eq, sizeLine_eq]; omega
  have hn : H p = none := I.hok.fresh hp
  have J : Inv X pins σ (upd H p (.lst (ys.map V.str))) { s with heap := s'.heap, gens := s'.gens, drawn := s'.drawn, toks := s'.toks } :=
    I.call (ch := []) (Un.laid k hp hn) (I.hok.laid k hp ⟨hlen, out.toList, c, vals_of_strs hi, hg⟩) (by rw [g]; exact I.bare) (fun _ z => nomatch z)
  have e : s' = { s with heap := s'.heap, gens := s'.gens, drawn := s'.drawn, toks := s'.toks } := by
    cases s'
    cases s
    cases o
    rfl
  rw [e]
  exact ⟨.ref p, _, J, rfl, q ys p hm hs hn⟩
end
end TsX

/-! own + - of one class, own * with an int, own - of one; == of two dicts of ints; o.m(k = v) -/
namespace KwX
open PySem PySem.Spec PySem.Calls PyProof.Rows L2 StX
section
variable {X : Cx} {CX : CXT} {n : Nat} {f C : Addr} {sp : Sp} {E : XK}
/-- o + p, both of C -/
def rBinO (C : Addr) (sp : Sp) (E : XK) : R2 := fun x y H Q => ∃ a b, x = .ref a ∧ y = .ref b ∧ InsAt H a C ∧ InsAt H b C ∧ sp [.ref a, .ref b] H (fun v H' => ∃ r, v = .ref r ∧ Q (.ref r) H') E
theorem op_binO {op : Operator} (O : OwnD X.K C (PySem.dunder op.info.2) f) (hc : PySem.W.selfFirst X.K C = true) (F : FnR X.prog X.w X.K X.mg X.base CX n f sp) (hr : Room n X.A) (hx : Passes CX X E) : OpR X (binaryOp op) (rBinO C sp E) := by
  intro pins s σ H x y v u Q I rx ry h
  obtain ⟨a, b, rfl, rfl, ha, hb, hs⟩ := h
  obtain rfl : v = Value.ref a := rx
  obtain rfl : u = Value.ref b := ry
  obtain ⟨ox, od, J⟩ := inst_of I ha
  obtain ⟨oy, oe, J2⟩ := inst_of I hb
  obtain ⟨m, hF⟩ := I.fr
  refine PySem.W.binop_K hF I.ok.mod.kin J J2.type hc O.fi O.fn (thn (run_at (sub0 hr) (us := [.ref a, .ref b]) (vs := [.ref a, .ref b]) F hx I (.cons rfl (.cons rfl .nil)) hs) fun z s' hv => ?_)
  obtain ⟨x, H', I', rz, r, rfl, q⟩ := hv
  obtain rfl : z = Value.ref r := rz
  exact ⟨.ref r, H', I', rfl, q⟩
/-- o * i, i an int -/
def rMulO (C : Addr) (sp : Sp) (E : XK) : R2 := fun x y H Q => ∃ a i, x = .ref a ∧ y = .int i ∧ InsAt H a C ∧ sp [.ref a, .int i] H (fun v H' => ∃ r, v = .ref r ∧ Q (.ref r) H') E
theorem op_mulO {op : Operator} {fo ro : Option Value} (O : OwnD X.K C (PySem.dunder op.info.2) f) (hc : PySem.W.selfFirst X.K C = true) (hr0 : PySem.W.findIn X.K (.ref C) (PySem.dunderR op.info.2) = some none)
    (h1 : PySem.W.findIn X.K (.type "int") (PySem.dunder op.info.2) = some fo) (h2 : PySem.W.findIn X.K (.type "int") (PySem.dunderR op.info.2) = some ro) (hsub : PySem.W.subIn X.K (.type "int") (.ref C) = some false)
    (F : FnR X.prog X.w X.K X.mg X.base CX n f sp) (hr : Room n X.A) (hx : Passes CX X E) : OpR X (binaryOp op) (rMulO C sp E) := by
  intro pins s σ H x y v u Q I rx ry h
  obtain ⟨a, i, rfl, rfl, ha, hs⟩ := h
  obtain rfl : v = Value.ref a := rx
  obtain ⟨t, rfl⟩ := ry
  obtain ⟨ox, od, J⟩ := inst_of I ha
  obtain ⟨m, hF⟩ := I.fr
  refine PySem.W.ksp_binT hF I.ok.mod.kin J rfl hc O.fi O.fn hr0 (.inl rfl) h1 h2 hsub (thn (run_at (sub0 hr) (us := [.ref a, .int i t]) (vs := [.ref a, .int i]) F hx I (.cons rfl (.cons ⟨t, rfl⟩ .nil)) hs) fun z s' hv => ?_)
  obtain ⟨x, H', I', rz, r, rfl, q⟩ := hv
  obtain rfl : z = Value.ref r := rz
  exact ⟨.ref r, H', I', rfl, q⟩
/-- -o -/
def rNegO (C : Addr) (sp : Sp) (E : XK) : V → Hp → VK → Prop := fun x H Q => ∃ a, x = .ref a ∧ InsAt H a C ∧ sp [.ref a] H Q E
theorem un_negO (O : OwnD X.K C "__neg__" f) (F : FnR X.prog X.w X.K X.mg X.base CX n f sp) (hr : Room n X.A) (hx : Passes CX X E) : UnR X (unaryOp .USub) (rNegO C sp E) := by
  intro pins s σ H x v Q I rx h
  obtain ⟨a, rfl, ha, hs⟩ := h
  obtain rfl : v = Value.ref a := rx
  obtain ⟨ox, od, J⟩ := inst_of I ha
  obtain ⟨m, hF⟩ := I.fr
  exact PySem.W.ksp_neg hF I.ok.mod.kin J O.fi O.fn (run_at (sub0 hr) (us := [.ref a]) (vs := [.ref a]) F hx I (.cons rfl .nil) hs)
/-- bool(o) -/
def rBoolO (C : Addr) (sp : Sp) (E : XK) : List V → Hp → VK → Prop := fun xs H Q => ∃ a, xs = [.ref a] ∧ InsAt H a C ∧ sp [.ref a] H (fun v H' => ∃ b, v = .bl b ∧ Q (.bl b) H') E

/-! == of dicts of ints -/
def hitI (ls : List (Key × V)) (p : Key × V) : Bool := match valV ls p.1 with
  | some v => decide (v = p.2)
  | none => false
theorem hits_int {A : Around} {s : Shared} {ls : List (Key × V)} {vb : List (Key × Value)} (rb : KV ls vb) (hl : ∀ k v, valV ls k = some v → ∃ i, v = .int i) {ks : List (Key × V)} {va : List (Key × Value)} (ra : KV ks va) (hk : ∀ p ∈ ks, ∃ i, p.2 = V.int i) :
    PySem.W.KeqHits A s vb va (ks.all (hitI ls)) := by
  unfold KV at ra
  induction ra with
  | nil => exact .nil
  | @cons p q ps qs h t ih =>
    obtain ⟨h1, h2⟩ := h
    obtain ⟨i, hi⟩ := hk p List.mem_cons_self
    have rr : RelO (valV ls p.1) (valueAt vb p.1) := rb.val p.1
    obtain ⟨k, v⟩ := q
    have h1' : p.1 = k := h1
    rw [List.all_cons]
    cases e : valV ls p.1 with
    | none =>
      have z : hitI ls p = false := by unfold hitI; rw [e]
      rw [z, Bool.false_and]
      rw [e] at rr
      refine .miss ?_
      rw [← h1']
      cases e2 : valueAt vb p.1 with
      | none => rfl
      | some y => rw [e2] at rr; exact False.elim rr
    | some w =>
      obtain ⟨j, rfl⟩ := hl _ _ e
      have z : hitI ls p = decide (V.int j = p.2) := by unfold hitI; rw [e]
      rw [e] at rr
      obtain ⟨y, hy, ry⟩ := rr.some_of
      rw [h1'] at hy
      obtain ⟨t2, rfl⟩ := (show ∃ t, y = Value.int j t from ry)
      rw [hi] at h2
      obtain ⟨t1, e1⟩ := (show ∃ t, v = Value.int i t from h2)
      subst e1
      have eq := SeqAt.EqAt.int_int (A := A) (s := s) i t1 j t2
      have zz : hitI ls p = (i == j) := by
        rw [z, hi, Bool.eq_iff_iff]
        simp only [decide_eq_true_eq, beq_iff_eq]
        exact ⟨fun q => (V.int.inj q).symm, fun q => by rw [q]⟩
      rw [zz]
      exact .hit hy eq (ih fun p' hm => hk p' (List.mem_cons_of_mem _ hm))
def rEqDI : R2 := fun x y H Q => ∃ a b ks ls, x = .ref a ∧ y = .ref b ∧ H a = some (.dK ks) ∧ H b = some (.dK ls) ∧ (∀ p ∈ ks, ∃ i, p.2 = V.int i) ∧ (∀ k v, valV ls k = some v → ∃ i, v = V.int i) ∧ Q (.bl (ks.length == ls.length && ks.all (hitI ls))) H
theorem op_eqDI (hu : X.A.units < cLine) : OpR X (compareOp .Eq) rEqDI := by
  intro pins s σ H x y v u Q I rx ry h
  obtain ⟨a, b, ks, ls, rfl, rfl, ea, eb, hk, hl, q⟩ := h
  obtain rfl : v = Value.ref a := rx
  obtain rfl : u = Value.ref b := ry
  obtain ⟨_, ya, va, ra, da⟩ := (show ObjOk X.prog X.w H s.heap a (.dK ks) from I.hok a _ ea)
  obtain ⟨_, yb, vb, rb, db⟩ := (show ObjOk X.prog X.w H s.heap b (.dK ls) from I.hok b _ eb)
  rw [ra.length, rb.length] at q
  exact PySem.W.keq_eq (knd := mixKind X.prog X.w) (r := ks.all (hitI ls)) ya yb da db hu (fun _ => hits_int rb hl ra hk) (fin_bl I q rfl)
/-- o.m(k = v, ..): keywords alone -/
def tMethK (C : Addr) (m : Str) (sp : Sp) (gV : List V → List V → List V) (E : XK) (ta : TE) (tk : TA) : TE := fun σ H Q => ta σ H fun x H1 => ∃ a dx fs, x = .ref a ∧ H1 a = some (.ins C dx fs) ∧ fs.lookup m = none ∧ tk σ H1 fun zs H2 => sp (gV [.ref a] zs) H2 Q E
theorem pe_methKw {pl : Sem Bool} {k : Nat} {fd : FuncData} {ps ks : List Str} {g : List Value → List Value → List Value} {gV : List V → List V → List V} {m : Str} {o : Expr} {kws : List Keyword} {pos apos : Pos} {ta : TE} {tk : TA}
    (he : PE X o ta) (c : Cls X.K C) (hm : Meth X.K C m f) (F : FnOk X.prog X.w X.K X.mg X.base CX k f fd ps sp) (hr : Room k X.A) (hb : KBinds X.K fd ps ks g gV) (hx : Passes CX X E) (hkw : PK X kws tk)
    (hall : (backToKw pos (keywordEach kws X.env)).all (·.1.isSome) = true := by rfl) (hks : (backToKw pos (keywordEach kws X.env)).filterMap (·.1) = ks := by rfl)
    (hpl : ((backTo pos (starEach [] X.env)).any (·.1) || (backToKw pos (keywordEach kws X.env)).any (·.1.isNone)) = false := by rfl)
    (ht : eval (.Call (.Attribute o m apos) [] kws pos) X.env = (do
      let ov ← eval o X.env
      standAt apos.atName
      let (f, first) ← holding [ov] (getMethod ov m pl)
      callWith pos f first (backTo pos (starEach [] X.env)) (backToKw pos (keywordEach kws X.env))) := by rfl) :
    PE X (.Call (.Attribute o m apos) [] kws pos) (tMethK C m sp gV E ta tk) := by
  refine ⟨fun pins s σ H Q I h => ?_⟩
  refine PySem.W.methodCall_KW (pl := pl) (thn (he.run pins s σ H _ I h) fun u s1 ⟨x, H1, I1, rx, a, dx, fs, ex, ea, l, q⟩ => ?_) ht
  subst ex
  obtain rfl : u = Value.ref a := rx
  refine getmeth_ok I1 ea c hm l ?_
  refine PySem.W.callWith_KW0 (first := [.ref a]) (h₀ := X.base) I1.ok.mod.kin hm.kp hall (thn (hkw.run pos pins s1 σ H1 _ I1 q) fun ws s2 ⟨zs, H2, I2, rz, q2⟩ => ⟨I2.kIn, ?_⟩) hpl
  rw [hks]
  exact run_fnk (us := [.ref a]) (vs := [.ref a]) F hr hb hx I2 (.cons rfl .nil) rz q2
end
end KwX

/-! name = {k: v for ..}; a dict comprehension over any walk -/
namespace KwX
open PySem PySem.Spec PySem.Calls PyProof.Rows L2 StX
section
variable {X : Cx}
theorem swd_true {kx vx : Expr} {gs : List Comprehension} {scope : Scope} {pos py : Pos} {y : Str} {l : Nat} {env : Env} (hk : env.scope.kind = .function) (hy : env.scope.names.lookup y = some .local) (hl : (py.line == pos.line) = true)
    (ha : (scope.names.any fun (n, k) => n == y && (k == .local || k == .cell)) = false) : swapsWith (.DictComp kx vx gs scope pos) (some (.Name y py)) l env = pure true := by
  have ky : env.kindOf y = some .local := hy
  have hb : env.blockKind = .function := by unfold Env.blockKind; rw [hk]; rfl
  unfold swapsWith
  simp only [hb, ky, ha, Expr.pos, hl]
  rfl
theorem ps_setDc {i : Nat} {y : Str} {py : Pos} {kx vx tg iter : Expr} {ifs : List Expr} {scope : Scope} {own : List (Str × Nat)} {pos spos : Pos} {wi : TI} {g : TG} {tt : TT} {tk tv : TE} (hc : X.calm = true) (hN : X.N.Nodup) (hy : X.N[i]? = some y) (hyl : X.env.scope.names.lookup y = some .local)
    (hsw : swapsWith (.DictComp kx vx [⟨tg, iter, ifs, 0⟩] scope pos) (some (.Name y py)) spos.line X.env = pure true) (hi : PI X tg iter wi) (ok : BlkOk X.N X.env.scope scope own)
    (hg : ∀ (s : Shared) (H : Hp) (C : Addr) (cl : List (Str × Addr)) (fp : List Addr), PG (X.blk s H scope (compEnvC scope cl C X.env) fp) tg g) (ht : ∀ (s : Shared) (H : Hp) (C : Addr) (cl : List (Str × Addr)) (fp : List Addr), PTs (X.blk s H scope (compEnvC scope cl C X.env) fp) ifs tt)
    (hk : ∀ (s : Shared) (H : Hp) (C : Addr) (cl : List (Str × Addr)) (fp : List Addr), PE (X.blk s H scope (compEnvC scope cl C X.env) fp) kx tk)
    (he : ∀ (s : Shared) (H : Hp) (C : Addr) (cl : List (Str × Addr)) (fp : List Addr), PE (X.blk s H scope (compEnvC scope cl C X.env) fp) vx tv) (hs : ∀ x, foldedSetIterable iter X.env x = pure x := by intro _; rfl) :
    PS X (.Assign [.Name y py] (.DictComp kx vx [⟨tg, iter, ifs, 0⟩] scope pos) spos) (tAsg (tDc wi g tt tk tv (own.map (·.2))) (gName i)) := by
  refine ⟨fun pins s σ H D I h => ?_⟩
  rw [exec_Assign_Name_used _ _ _ _ hsw]
  refine wpAny_bind (wpAny_standAt (wpAny_bind ?_))
  show wpAny _ X.A (do let _ ← comprehension (.DictComp kx vx [⟨tg, iter, ifs, 0⟩] scope pos) scope X.env (firstIterPos [⟨tg, iter, ifs, 0⟩] pos) newDict false (eval iter X.env) (some (assign (.Name y py) X.env))) _ _ s
  have h : tDc wi g tt tk tv (own.map (·.2)) σ H (fun x H1 => gName i x σ H1 D.nx) := h
  refine wpAny_bind (thn (dc_core (Qf := fun _ s' => SP X pins D .next s') hc hN I hi ok hg ht hk he hs h fun L C s' m H' I' q hn f => ?_) fun _ s' hq => wpAny_pure (wpAny_pure hq))
  show wpAny _ _ (assign (.Name y py) X.env (.ref L)) _ _ _
  refine wpAny_assign_Name (store_ok2 (v := V.ref L) I' hN hy (.inl hyl) rfl (fun s2 I2 ⟨a, sb, ha⟩ => ?_) (.inr hyl))
  obtain ⟨f0, f1, f2, f3, f4, f5⟩ := f
  have haC : C ≠ a := by
    rcases ha with z | z
    · rw [z]; exact f1
    · exact fun e => f4 y a z e.symm
  refine ⟨m, hn.sameBut sb haC, fun h3 sb3 => ?_⟩
  exact ⟨_, H', I2.turned (t' := s2.toks) (fun b o hb e => (sb3.2 b hb).trans e) f0 f1 f3 f4 f5, q⟩
theorem ps_setDcL {i : Nat} {y : Str} {py : Pos} {kx vx tg iter : Expr} {ifs : List Expr} {scope : Scope} {own : List (Str × Nat)} {pos spos : Pos} {wi : TI} {g : TG} {tt : TT} {tk tv : TE} (hc : X.calm = true) (hN : X.N.Nodup) (hy : X.N[i]? = some y) (hyl : X.env.scope.names.lookup y = some .local)
    (hsw : swapsWith (.DictComp kx vx [⟨tg, iter, ifs, 0⟩] scope pos) (some (.Name y py)) spos.line X.env = pure true) (hi : PI X tg iter wi) (ok : BlkOk X.N X.env.scope scope own)
    (hg : ∀ (s : Shared) (H : Hp) (C : Addr) (cl : List (Str × Addr)) (fp : List Addr), PG (X.blk s H scope (compEnvC scope cl C X.env) fp) tg g) (ht : ∀ (s : Shared) (H : Hp) (C : Addr) (cl : List (Str × Addr)) (fp : List Addr), PTs (X.blk s H scope (compEnvC scope cl C X.env) fp) ifs tt)
    (hk : ∀ (s : Shared) (H : Hp) (C : Addr) (cl : List (Str × Addr)) (fp : List Addr), PE (X.blk s H scope (compEnvC scope cl C X.env) fp) kx tk)
    (he : ∀ (s : Shared) (H : Hp) (C : Addr) (cl : List (Str × Addr)) (fp : List Addr), PE (X.blk s H scope (compEnvC scope cl C X.env) fp) vx tv) (hs : ∀ x, foldedSetIterable iter X.env x = pure x := by intro _; rfl) :
    PS X (.Assign [.Name y py] (.DictComp kx vx [⟨tg, iter, ifs, 0⟩] scope pos) spos) (tLock (tAsg (tDc wi g tt tk tv (own.map (·.2))) (gName i))) := ps_lock (ps_setDc hc hN hy hyl hsw hi ok hg ht hk he hs)
end
/-- a dict comprehension over a walk: Pv by the turn and the heap (the new dict at D within) -/
theorem dc_it {J : It} {n : Nat} {G : Hp → Prop} {Y : Nat → Hp → V → Hp → Prop} (w : Walk J n G Y) {g : TG} {tt : TT} {tk tv : TE} {vs : List Nat} {σ : L2.St} {H1 : Hp} {D : Addr} {Qd : Hp → Prop} (Pv : Nat → Hp → Prop) (h0 : Pv 0 (upd H1 D (.dK []))) (hG : ∀ i H, i ≤ n → Pv i H → G H)
    (hs : ∀ i x H H', i < n → Pv i H → Y i H x H' → g x (wipe σ vs) H' fun σ2 H2 => wipe σ2 vs = wipe σ vs ∧ tt σ2 H2 fun b H3 =>
      if b = true then tk σ2 H3 fun y H4 => tv σ2 H4 fun z H5 => ∃ kvs k, y = kV k ∧ H5 D = some (.dK kvs) ∧ kvs.length < sizeLine ∧ Pv (i + 1) (upd H5 D (.dK (putK kvs k z))) else Pv (i + 1) H3) (hd : ∀ H, Pv n H → Qd H) :
    ∃ W : Nat → Nat → Hp → Prop, (∃ m, W 0 m (upd H1 D (.dK []))) ∧ ∀ i m H, W i m H →
      (J.stop i H ∧ Qd H) ∨ (J.go i H ∧ ∃ Nx : Hp → Prop, (∀ H', Nx H' → ∃ m', m' < m ∧ W (i + 1) m' H') ∧ ∀ x H', J.yld i H x H' → g x (wipe σ vs) H' fun σ2 H2 => wipe σ2 vs = wipe σ vs ∧ tt σ2 H2 fun b H3 =>
        if b = true then tk σ2 H3 fun y H4 => tv σ2 H4 fun z H5 => ∃ kvs k, y = kV k ∧ H5 D = some (.dK kvs) ∧ kvs.length < sizeLine ∧ Nx (upd H5 D (.dK (putK kvs k z))) else Nx H3) := by
  refine ⟨fun i m H => m = n - i ∧ i ≤ n ∧ Pv i H, ⟨n, by simp, Nat.zero_le _, h0⟩, ?_⟩
  rintro i m H ⟨rfl, hi, p⟩
  have q := hG i H hi p
  by_cases hlt : i < n
  · refine .inr ⟨w.goes i H hlt q, Pv (i + 1), fun H' p' => ⟨n - (i + 1), by omega, rfl, hlt, p'⟩, fun x H' y => hs i x H H' hlt p (w.yields i H x H' hlt q y)⟩
  · have e : i = n := by omega
    subst e
    exact .inl ⟨w.stops H q, hd H p⟩
end KwX

/-! dicts from texts to ints, their canonical form -/
namespace VecX
open PySem PySem.Spec PyProof.Rows L2
abbrev IL := List (Str × Int)
def DI (l : IL) : List (Key × V) := l.map fun p => (Sum.inr p.1, V.int p.2)
def vl (l : IL) (k : Str) : Int := (l.lookup k).getD 0
def ks (l : IL) : List Str := l.map (·.1)
def putI (l : IL) (k : Str) (i : Int) : IL := if k ∈ ks l then l.map (fun p => if p.1 = k then (p.1, i) else p) else l ++ [(k, i)]
theorem DI_len (l : IL) : (DI l).length = l.length := List.length_map ..
theorem ks_len (l : IL) : (ks l).length = l.length := List.length_map ..
theorem DI_keys (l : IL) : (DI l).map (·.1) = (ks l).map Sum.inr := by unfold DI ks; rw [List.map_map, List.map_map]; rfl
theorem DI_kw (l : IL) : DI l = KwX.kwK (l.map fun p => (p.1, V.int p.2)) := by unfold DI KwX.kwK; rw [List.map_map]; rfl
theorem DI_val : ∀ (l : IL) (k : Str), valV (DI l) (Sum.inr k : Key) = (l.lookup k).map V.int
  | [], k => rfl
  | p :: r, k => by
    show valV ((Sum.inr p.1, V.int p.2) :: DI r) (Sum.inr k : Key) = _
    by_cases e : p.1 = k
    · rw [valV_pos (show (Sum.inr p.1 : Key) = Sum.inr k from congrArg Sum.inr e), List.lookup_cons, beq_iff_eq.mpr e.symm]
      rfl
    · rw [valV_neg (fun z => e (Sum.inr.inj z)), DI_val r k, List.lookup_cons, beq_eq_false_iff_ne.mpr (fun z => e z.symm)]
theorem DI_some {l : IL} {k : Key} {v : V} (h : valV (DI l) k = some v) : ∃ i, v = V.int i := by
  unfold valV at h
  cases e : (DI l).find? (fun kv => decide (kv.1 = k)) with
  | none => rw [e] at h; cases h
  | some p =>
    rw [e] at h
    cases h
    have m := List.mem_of_find?_eq_some e
    unfold DI at m
    obtain ⟨q, _, rfl⟩ := List.mem_map.mp m
    exact ⟨_, rfl⟩
theorem DI_int {l : IL} : ∀ p ∈ DI l, ∃ i, p.2 = V.int i := by
  intro p h
  unfold DI at h
  obtain ⟨q, _, rfl⟩ := List.mem_map.mp h
  exact ⟨_, rfl⟩
theorem any_keys (l : IL) (k : Str) : ((DI l).any fun kv => decide (kv.1 = (Sum.inr k : Key))) = decide (k ∈ ks l) := by
  rw [Bool.eq_iff_iff, List.any_eq_true, decide_eq_true_eq]
  constructor
  · rintro ⟨p, hp, e⟩
    unfold DI at hp
    obtain ⟨q, hq, rfl⟩ := List.mem_map.mp hp
    have e2 : q.1 = k := Sum.inr.inj (of_decide_eq_true e)
    rw [← e2]
    exact List.mem_map_of_mem hq
  · intro h
    obtain ⟨q, hq, e⟩ := List.mem_map.mp h
    exact ⟨(Sum.inr q.1, V.int q.2), List.mem_map_of_mem (f := fun p : Str × Int => ((Sum.inr p.1 : Key), V.int p.2)) hq, decide_eq_true (congrArg Sum.inr e)⟩
theorem DI_put (l : IL) (k : Str) (i : Int) : putK (DI l) (Sum.inr k : Key) (V.int i) = DI (putI l k i) := by
  unfold putK putI
  rw [any_keys]
  by_cases h : k ∈ ks l
  · rw [if_pos (decide_eq_true h), if_pos h]
    unfold DI
    rw [List.map_map, List.map_map]
    refine List.map_congr_left fun p _ => ?_
    show (if (Sum.inr p.1 : Key) = Sum.inr k then _ else _) = _
    by_cases e : p.1 = k
    · rw [if_pos (congrArg Sum.inr e)]
      show _ = ((fun p : Str × Int => ((Sum.inr p.1 : Key), V.int p.2)) (if p.1 = k then (p.1, i) else p))
      rw [if_pos e]
    · rw [if_neg (fun z => e (Sum.inr.inj z))]
      show _ = ((fun p : Str × Int => ((Sum.inr p.1 : Key), V.int p.2)) (if p.1 = k then (p.1, i) else p))
      rw [if_neg e]
  · rw [if_neg (by rw [decide_eq_true_eq]; exact h), if_neg h]
    unfold DI
    rw [List.map_append]
    rfl
theorem ks_put (l : IL) (k : Str) (i : Int) : ks (putI l k i) = if k ∈ ks l then ks l else ks l ++ [k] := by
  unfold putI
  by_cases h : k ∈ ks l
  · rw [if_pos h, if_pos h]
    unfold ks
    rw [List.map_map]
    refine List.map_congr_left fun p _ => ?_
    show (if p.1 = k then (p.1, i) else p).1 = p.1
    split <;> rfl
  · rw [if_neg h, if_neg h]
    unfold ks
    rw [List.map_append]
    rfl
theorem ks_put_mem {l : IL} {k x : Str} {i : Int} : x ∈ ks (putI l k i) ↔ x ∈ ks l ∨ x = k := by
  rw [ks_put]
  split
  · rename_i h
    exact ⟨.inl, fun z => z.elim id fun e => e ▸ h⟩
  · rw [List.mem_append, List.mem_singleton]
theorem ks_put_nodup {l : IL} {k : Str} {i : Int} (h : (ks l).Nodup) : (ks (putI l k i)).Nodup := by
  rw [ks_put]
  split
  · exact h
  · rename_i q
    rw [List.nodup_append]
    refine ⟨h, List.nodup_cons.mpr ⟨List.not_mem_nil, List.nodup_nil⟩, fun a ha b hb => ?_⟩
    rw [List.mem_singleton.mp hb]
    exact fun e => q (e ▸ ha)
theorem put_len {l : IL} {k : Str} {i : Int} : (putI l k i).length ≤ l.length + 1 := by
  rw [← ks_len, ks_put]
  split
  · rw [ks_len]; omega
  · rw [List.length_append, ks_len]; exact Nat.le_refl _
theorem put_mem {l : IL} {k : Str} {i : Int} {p : Str × Int} (h : p ∈ putI l k i) : p ∈ l ∨ p = (k, i) := by
  unfold putI at h
  split at h
  · obtain ⟨q, hq, e⟩ := List.mem_map.mp h
    by_cases z : q.1 = k
    · rw [if_pos z] at e
      exact .inr (by rw [← e, z])
    · rw [if_neg z] at e
      exact .inl (e ▸ hq)
  · rcases List.mem_append.mp h with h | h
    · exact .inl h
    · exact .inr (List.mem_singleton.mp h)
theorem look_mem : ∀ {l : IL} {k : Str}, (l.lookup k).isSome = true ↔ k ∈ ks l
  | [], k => by simp [ks]
  | p :: r, k => by
    rw [List.lookup_cons]
    show _ ↔ k ∈ p.1 :: ks r
    by_cases e : k = p.1
    · rw [beq_iff_eq.mpr e]
      simp [e]
    · rw [beq_eq_false_iff_ne.mpr e, List.mem_cons]
      simp only [e, false_or]
      exact look_mem
theorem look_none {l : IL} {k : Str} (h : k ∉ ks l) : l.lookup k = none := by
  cases e : l.lookup k with
  | none => rfl
  | some i => exact absurd (look_mem.mp (by rw [e]; rfl)) h
theorem look_some {l : IL} {k : Str} (h : k ∈ ks l) : l.lookup k = some (vl l k) := by
  have z := look_mem.mpr h
  unfold vl
  cases e : l.lookup k with
  | none => rw [e] at z; cases z
  | some i => rfl
theorem vl_none {l : IL} {k : Str} (h : k ∉ ks l) : vl l k = 0 := by unfold vl; rw [look_none h]; rfl
theorem vl_nil (k : Str) : vl [] k = 0 := rfl
theorem look_append {l m : IL} {k : Str} : (l ++ m).lookup k = (l.lookup k).or (m.lookup k) := by
  induction l with
  | nil => rfl
  | cons p r ih =>
    rw [List.cons_append, List.lookup_cons, List.lookup_cons]
    by_cases e : k = p.1
    · rw [beq_iff_eq.mpr e]; rfl
    · rw [beq_eq_false_iff_ne.mpr e]; exact ih
theorem vl_put (l : IL) (k : Str) (i : Int) (x : Str) : vl (putI l k i) x = if x = k then i else vl l x := by
  unfold putI
  by_cases h : k ∈ ks l
  · rw [if_pos h]
    unfold vl
    have g : ∀ l : IL, (l.map fun p => if p.1 = k then (p.1, i) else p).lookup x = if x = k then (l.lookup x).map (fun _ => i) else l.lookup x := by
      intro l
      induction l with
      | nil => split <;> rfl
      | cons p r ih =>
        rw [List.map_cons]
        by_cases e : p.1 = k
        · rw [if_pos e, List.lookup_cons, List.lookup_cons]
          by_cases e2 : x = p.1
          · rw [beq_iff_eq.mpr e2, if_pos (e2.trans e)]; rfl
          · rw [beq_eq_false_iff_ne.mpr e2]; exact ih
        · rw [if_neg e, List.lookup_cons, List.lookup_cons]
          by_cases e2 : x = p.1
          · rw [beq_iff_eq.mpr e2, if_neg (fun z => e (e2.symm.trans z))]
          · rw [beq_eq_false_iff_ne.mpr e2]; exact ih
    rw [g]
    by_cases e : x = k
    · rw [if_pos e, if_pos e]
      rw [e, look_some h]; rfl
    · rw [if_neg e, if_neg e]
  · rw [if_neg h]
    unfold vl
    rw [look_append]
    by_cases e : x = k
    · rw [if_pos e, e, look_none h, List.lookup_cons, beq_self_eq_true]; rfl
    · rw [if_neg e]
      have z : List.lookup x [(k, i)] = none := by rw [List.lookup_cons, beq_eq_false_iff_ne.mpr e]; rfl
      rw [z]
      cases l.lookup x <;> rfl
/-! the order of texts -/
def lt (a b : Str) : Prop := a.cps.toList < b.cps.toList
theorem str_ext {a b : Str} (h : a.cps.toList = b.cps.toList) : a = b := by
  cases a; cases b
  congr
  exact Array.toList_inj.mp h
theorem lt_irr {a : Str} : ¬ lt a a := List.lt_irrefl _
theorem lt_tr {a b c : Str} (h : lt a b) (g : lt b c) : lt a c := List.lt_trans h g
theorem lt_as {a b : Str} (h : lt a b) : ¬ lt b a := fun g => lt_irr (lt_tr h g)
theorem not_lt {a b : Str} (h : ¬ lt a b) (n : a ≠ b) : lt b a := by
  have z : b.cps.toList ≤ a.cps.toList := List.not_lt.mp h
  rcases List.le_iff_lt_or_eq.mp z with q | q
  · exact q
  · exact absurd (str_ext q).symm n
theorem rising_pw : ∀ {l : List Str} {p : Str}, risingS p l = true → ∀ x ∈ l, ¬ lt x p
  | [], _, _, _, hx => nomatch hx
  | y :: r, p, h, x, hx => by
    have h2 : (!ltCps y.cps.toList p.cps.toList && risingS y r) = true := h
    rw [Bool.and_eq_true, ltCps_eq] at h2
    have a : ¬ lt y p := by
      have q := h2.1
      intro z
      rw [decide_eq_true (show y.cps.toList < p.cps.toList from z)] at q
      cases q
    rcases List.mem_cons.mp hx with e | e
    · rw [e]; exact a
    · have b := rising_pw h2.2 x e
      by_cases q : y = p
      · rw [← q]; exact b
      · have c : lt p y := not_lt a q
        intro z
        exact b (lt_tr z c)
theorem sorted_pw : ∀ {l : List Str}, sortedS l = true → l.Nodup → l.Pairwise lt
  | [], _, _ => .nil
  | x :: r, h, n => by
    have h1 : risingS x r = true := h
    obtain ⟨n1, n2⟩ := List.nodup_cons.mp n
    refine .cons (fun y hy => ?_) (sorted_pw ?_ n2)
    · exact not_lt (rising_pw h1 y hy) (fun e => n1 (e ▸ hy))
    · cases r with
      | nil => rfl
      | cons y s =>
        have q : (!ltCps y.cps.toList x.cps.toList && risingS y s) = true := h1
        rw [Bool.and_eq_true] at q
        exact q.2
theorem pw_eq : ∀ {l m : List Str}, l.Pairwise lt → m.Pairwise lt → (∀ x, x ∈ l ↔ x ∈ m) → l = m
  | [], [], _, _, _ => rfl
  | [], y :: s, _, _, h => by have := (h y).mpr List.mem_cons_self; cases this
  | x :: r, [], _, _, h => by have := (h x).mp List.mem_cons_self; cases this
  | x :: r, y :: s, hl, hm, h => by
    cases hl with
    | cons hx hr =>
    cases hm with
    | cons hy hs =>
      have e : x = y := by
        rcases List.mem_cons.mp ((h x).mp List.mem_cons_self) with q | q
        · exact q
        · rcases List.mem_cons.mp ((h y).mpr List.mem_cons_self) with p | p
          · exact p.symm
          · exact absurd (hy x q) (lt_as (hx y p))
      subst e
      have nx : x ∉ r := fun z => lt_irr (hx x z)
      have ny : x ∉ s := fun z => lt_irr (hy x z)
      rw [pw_eq hr hs fun z => ⟨fun q => ?_, fun q => ?_⟩]
      · rcases List.mem_cons.mp ((h z).mp (List.mem_cons_of_mem _ q)) with p | p
        · exact absurd (p ▸ q) nx
        · exact p
      · rcases List.mem_cons.mp ((h z).mpr (List.mem_cons_of_mem _ q)) with p | p
        · exact absurd (p ▸ q) ny
        · exact p
theorem pw_nodup {l : List Str} (h : l.Pairwise lt) : l.Nodup := List.Pairwise.imp (fun {a b} (h : lt a b) (e : a = b) => lt_irr (a := b) (by rw [e] at h; exact h)) h
/-! canonical lists: names ascend, no number is 0 -/
structure Can (l : IL) : Prop where
  asc : (ks l).Pairwise lt
  ne : ∀ p ∈ l, p.2 ≠ 0
theorem vl_mem : ∀ {l : IL} {p : Str × Int}, (ks l).Nodup → p ∈ l → vl l p.1 = p.2
  | [], _, _, h => nomatch h
  | q :: r, p, n, h => by
    obtain ⟨n1, n2⟩ := List.nodup_cons.mp (show (q.1 :: ks r).Nodup from n)
    unfold vl
    rw [List.lookup_cons]
    rcases List.mem_cons.mp h with e | e
    · rw [e, beq_self_eq_true]; rfl
    · have z : p.1 ≠ q.1 := fun w => n1 (w ▸ List.mem_map_of_mem e)
      rw [beq_eq_false_iff_ne.mpr z]
      exact vl_mem n2 e
theorem Can.iff {l : IL} (c : Can l) (k : Str) : k ∈ ks l ↔ vl l k ≠ 0 := by
  constructor
  · intro h
    obtain ⟨p, hp, e⟩ := List.mem_map.mp h
    have := vl_mem (pw_nodup c.asc) hp
    rw [← e, this]
    exact c.ne p hp
  · intro h
    exact Classical.byContradiction fun n => h (vl_none n)
theorem list_of_vl {l : IL} (n : (ks l).Nodup) : l = (ks l).map fun k => (k, vl l k) := by
  unfold ks
  rw [List.map_map]
  conv => lhs; rw [← List.map_id l]
  refine List.map_congr_left fun p hp => ?_
  show p = (p.1, vl l p.1)
  rw [vl_mem n hp]
theorem Can.ext {l m : IL} (c : Can l) (d : Can m) (h : ∀ k, vl l k = vl m k) : l = m := by
  have e : ks l = ks m := pw_eq c.asc d.asc fun k => by rw [c.iff, d.iff, h k]
  rw [list_of_vl (pw_nodup c.asc), list_of_vl (pw_nodup d.asc), e]
  exact List.map_congr_left fun k _ => by rw [h k]
/-- the canonical list with these numbers at these names -/
def mk (ys : List Str) (f : Str → Int) : IL := (ys.filter fun k => decide (f k ≠ 0)).map fun k => (k, f k)
theorem ks_mk (ys : List Str) (f : Str → Int) : ks (mk ys f) = ys.filter fun k => decide (f k ≠ 0) := by
  unfold ks mk
  rw [List.map_map]
  exact List.map_id _
theorem can_mk {ys : List Str} {f : Str → Int} (h : ys.Pairwise lt) : Can (mk ys f) := by
  refine ⟨?_, fun p hp => ?_⟩
  · rw [ks_mk]; exact h.filter _
  · unfold mk at hp
    obtain ⟨k, hk, rfl⟩ := List.mem_map.mp hp
    exact of_decide_eq_true (List.mem_filter.mp hk).2
theorem vl_mk {ys : List Str} {f : Str → Int} (h : ys.Nodup) (k : Str) : vl (mk ys f) k = if k ∈ ys then f k else 0 := by
  have nd : (ks (mk ys f)).Nodup := by rw [ks_mk]; exact h.filter _
  by_cases m : k ∈ ks (mk ys f)
  · obtain ⟨p, hp, e⟩ := List.mem_map.mp m
    rw [← e, vl_mem nd hp]
    unfold mk at hp
    obtain ⟨z, hz, rfl⟩ := List.mem_map.mp hp
    rw [if_pos (List.mem_filter.mp hz).1]
  · rw [vl_none m]
    rw [ks_mk, List.mem_filter] at m
    split
    · rename_i q
      have : ¬ (decide (f k ≠ 0) = true) := fun w => m ⟨q, w⟩
      have := fun w => this (decide_eq_true w)
      exact (Classical.byContradiction fun w => this fun z => w z.symm)
    · rfl
end VecX

/-! tuple(d), bool(d), bool(o) -/
namespace PySem
open Sem (wp)
open AutoSeq1 (wpAny_loadPart')
section
variable {prog : Program} {w : World} {A : Around} {E : Value → Shared → Prop} {s : Shared} {T : String} {r d : Addr} {n : Nat} {P : Nat → Value → Prop} {OK : Heap → Prop}
theorem code_tuple_new_d {Q₁ : Value → Shared → Prop} (K : PySem.W.KdlSrc prog w T r d n P OK) (hh : A.handled = none) (hok : OK s.heap) (hT : s.TypeIs (.ref r) T) (ne : T ≠ "tuple")
    (h : ∀ (h' : Heap) (tk : Nat) (acc : Array Value), (∀ b o, s.heap.get? b = some o → h'.get? b = some o) → ItemsOf P acc n → Q₁ (.ref h'.objs.size) { s with heap := h'.push { cls := .type "tuple", data := .seq acc }, toks := tk }) (hsz : n ≤ sizeLine) :
    codeAny (model prog w) A (.call (.builtin "tuple.__new__") ⟨[.type "tuple", .ref r], []⟩) (wants Q₁ E) s := by
  refine codeAny_of_tree ?_
  show wpAny _ A.in1 (do checkBuiltinCall "tuple.__new__" ⟨[.type "tuple", .ref r], []⟩; again (.builtin "tuple.__new__" ⟨[.type "tuple", .ref r], []⟩)) _ _ s
  refine wpAny_bind (wpAny_of_eq (F.newCall_tuple_1 _) (wpAny_pure ⟨plainId_quiet F.plain_tuple_new _, codeAny_builtin F.entry_tuple_new ?_⟩))
  rw [Around.under_plainId F.plain_tuple_new _]
  have hsub := sub_tuple_self
  have hinit := init_tuple_lookup
  have hmh := madeHere_tuple
  wp_walk using wpAny_typeOf hT, PySem.W.kdu_collect (A := A.in1) K hh hok hsz
  intro h' tk acc hk hacc
  show wpAny _ _ (Builtin.Tuple.tupleExact acc.toList.toArray >>= fun v => ret v) _ _ _
  unfold Builtin.Tuple.tupleExact
  refine wpAny_bind (wpAny_newObj_type ?_ (by show acc.toList.toArray.size ≤ sizeLine; simp only [Array.toArray_toList]; rw [hacc.1]; exact hsz))
  refine wpAny_pure ?_
  have e : acc.toList.toArray = acc := by simp
  rw [e]
  exact h h' tk acc hk hacc
theorem call_tuple_d {Q : Value → Shared → Prop} (K : PySem.W.KdlSrc prog w T r d n P OK) (hh : A.handled = none) (hok : OK s.heap) (hT : s.TypeIs (.ref r) T) (ne : T ≠ "tuple")
    (h : ∀ (h' : Heap) (tk : Nat) (acc : Array Value), (∀ b o, s.heap.get? b = some o → h'.get? b = some o) → ItemsOf P acc n → Q (.ref h'.objs.size) { s with heap := h'.push { cls := .type "tuple", data := .seq acc }, toks := tk }) (hsz : n ≤ sizeLine) :
    wpAny (model prog w) A (call (.type "tuple") [.ref r]) Q E s := by
  refine callType_codes (Q₁ := fun obj s₁ => s₁.TypeIs obj "tuple" ∧ Q obj s₁) F.called_tuple (F.typeCall_tuple_1 _) F.entry_object_init
    (code_tuple_new_d (A := A.in1) K hh hok hT ne (fun h' tk acc hm hacc => ⟨⟨_, Heap.get?_push_size _ rfl, rfl⟩, h h' tk acc hm hacc⟩) hsz) fun obj s₁ h₁ => ?_
  exact ⟨h₁.1, F.args_object_init_2 obj _, object_init_meets F.called_tuple.init.lookup F.called_tuple.made (by decide) prog w A.in1 _ s₁ ⟨h₁.1, rfl, h₁.2⟩⟩
/-- bool(x) by truth -/
theorem code_bool_t {x : Value} {Q₁ : Value → Shared → Prop} (h : wpAny (model prog w) A.in1 (truthy x) (fun b s' => Q₁ (.bool b) s') (fun e s' => wants Q₁ E (.error e) s') s) :
    codeAny (model prog w) A (.call (.builtin "bool.__new__") ⟨[.type "bool", x], []⟩) (wants Q₁ E) s := by
  refine codeAny_of_tree ?_
  show wpAny _ A.in1 (do checkBuiltinCall "bool.__new__" ⟨[.type "bool", x], []⟩; again (.builtin "bool.__new__" ⟨[.type "bool", x], []⟩)) _ _ s
  refine wpAny_bind (wpAny_of_eq (F.newCall_bool_1 x) (wpAny_pure ⟨plainId_quiet (by decide +kernel) _, codeAny_builtin F.entry_bool_new ?_⟩))
  rw [Around.under_plainId (by decide +kernel) _]
  have f1 := F.conv_sub_bool
  wp_walk using h
  show wpAny _ _ (truthy x) _ _ _
  exact wpAny_mono h (fun b s' hb => wpAny_pure hb) fun _ _ z => z
theorem call_bool_t {x : Value} {Q : Value → Shared → Prop} (h : wpAny (model prog w) A.in1.in1 (truthy x) (fun b s' => Q (.bool b) s') E s) : wpAny (model prog w) A (call (.type "bool") [x]) Q E s := by
  refine callType_codes (Q₁ := fun obj s₁ => s₁.TypeIs obj "bool" ∧ Q obj s₁) F.called_bool (F.typeCall_bool_1 _) F.entry_object_init
    (code_bool_t (A := A.in1) (wpAny_mono h (fun b s' hb => ⟨rfl, hb⟩) fun _ _ z => z)) fun obj s₁ h₁ => ?_
  exact ⟨h₁.1, F.args_object_init_2 obj _, object_init_meets F.called_bool.init.lookup F.called_bool.made F.newNe_bool prog w A.in1 _ s₁ ⟨h₁.1, rfl, h₁.2⟩⟩
end
end PySem
namespace KwX
open PySem PySem.Spec PySem.Calls PyProof.Rows L2 StX
section
variable {X : Cx} {CX : CXT} {n : Nat} {f C : Addr} {sp : Sp} {E : XK}
/-- tuple(d): its keys -/
def rTupleD : List V → Hp → VK → Prop := fun xs H Q => ∃ (a : Addr) (kvs : List (Key × V)), xs = [.ref a] ∧ Rd H a (.dK kvs) ∧ ∀ p, H p = none → Q (.ref p) (upd H p (.tup (kvs.map fun kv => kV kv.1)))
theorem call_tupleD (hcalm : X.calm = true) : CallR X (.type "tuple") rTupleD := by
  intro pins s σ H xs us Q I r q
  obtain ⟨a, kvs, ex, hd, q⟩ := q
  subst ex
  obtain ⟨u, eu, rx⟩ := vals1 r
  subst eu
  cases rx
  obtain ⟨z, lo, vs, rel, dd⟩ := dk_rd I.hok hd
  obtain ⟨ep, hat⟩ := dd.dictAt
  have ek : (kvs.map fun kv => kV kv.1) = vs.map fun p => kV p.1 := by
    have e := congrArg (List.map kV) rel.keys
    rw [List.map_map, List.map_map] at e
    exact e
  refine call_tuple_d (PySem.W.kdl_dict (knd := mixKind X.prog X.w) (kvs := vs) (ep := ep) lo) (I.ok.hd hcalm) hat dd.typeIs (by decide) (fun h' tk acc hk hacc => ?_) (by rw [← rel.length]; exact z)
  have hv : Vals (vs.map fun p => kV p.1) acc.toList := keys_at (by rw [Array.length_toList]; exact hacc.1) fun j v e => hacc.2 j v (by rw [← Array.getElem?_toList]; exact e)
  have I1 : Inv X pins σ H { s with heap := h', toks := tk } := I.kept (t' := tk) hk
  have hz : (kvs.map fun kv => kV kv.1).length ≤ sizeLine := by rw [List.length_map]; exact z
  have I2 : Inv X pins σ (upd H h'.objs.size (.tup (kvs.map fun kv => kV kv.1))) { s with heap := h'.push { cls := .type "tuple", data := .seq acc }, toks := tk } := by
    refine I1.laid (t' := tk) (fun b o e => Heap.get?_push_of_some _ e) (Nat.le_refl _) (show ObjOk X.prog X.w _ _ _ (.tup (kvs.map fun kv => kV kv.1)) from ⟨hz, acc.toList, by rw [ek]; exact hv, ?_⟩)
    cases acc with
    | mk its => exact IsTup.new _ _
  exact ⟨.ref h'.objs.size, _, I2, rfl, q _ (I1.hok.fresh (Nat.le_refl _))⟩
/-- bool(d) -/
def rBoolD : List V → Hp → VK → Prop := fun xs H Q => ∃ (a : Addr) (kvs : List (Key × V)), xs = [.ref a] ∧ H a = some (.dK kvs) ∧ Q (.bl (!kvs.isEmpty)) H
theorem call_boolD : CallR X (.type "bool") rBoolD := by
  intro pins s σ H xs us Q I r q
  obtain ⟨a, kvs, ex, hd, q⟩ := q
  subst ex
  obtain ⟨u, eu, rx⟩ := vals1 r
  subst eu
  cases rx
  obtain ⟨z, lo, vs, rel, dd⟩ := dk_rd I.hok (.inl hd)
  have hl := line63
  have hlen := rel.length
  refine call_bool_t (wpAny_truthy_dict lo dd (by omega) ?_)
  refine ⟨.bl (!kvs.isEmpty), H, I.tok _, ?_, q⟩
  show Value.bool (!vs.isEmpty) = Value.bool (!kvs.isEmpty)
  cases kvs with
  | nil => cases vs with
    | nil => rfl
    | cons _ _ => simp at hlen
  | cons _ _ => cases vs with
    | nil => simp at hlen
    | cons _ _ => rfl
/-- bool(o) -/
theorem call_boolO (O : OwnD X.K C "__bool__" f) (F : FnR X.prog X.w X.K X.mg X.base CX n f sp) (hr : Room (n + 2) X.A) (hx : Passes CX X E) : CallR X (.type "bool") (rBoolO C sp E) := by
  intro pins s σ H xs us Q I r h
  obtain ⟨a, rfl, ha, hs⟩ := h
  obtain ⟨u, rfl, ru⟩ := vals1 r
  obtain rfl : u = Value.ref a := ru
  obtain ⟨ox, od, J⟩ := inst_of I ha
  obtain ⟨m, hF⟩ := I.fr
  have sb : Sub X n X.A.in1.in1 := (sub1 (n := n + 1) hr).in1
  refine call_bool_t (PySem.W.truthy_K hF I.ok.mod.kin J O.fi O.fn (thn (run_at sb (us := [.ref a]) (vs := [.ref a]) F hx I (.cons rfl .nil) hs) fun v s' hv => ?_))
  obtain ⟨x, H', I', rx, b, rfl, q⟩ := hv
  obtain rfl := rx
  exact ⟨.bl b, H', I', rfl, q⟩
end
end KwX

namespace K4
open PySem PySem.Spec PyProof.Rows L2 EvG EvX VecX KwX
def top (i : Nat) : Stmt := PySem.Challenge.pw_evenends_k04_vectors_added_and_multiplie.main.body.getD i (.Pass ⟨0, 0, 0, 0⟩)
abbrev s_is_name : Stmt := (top 6)
abbrev N_is_name : List Str := ["value"]
theorem sc_is_name : FnScope N_is_name ["value"] (defScope s_is_name) := ⟨rfl, rfl, rfl, by decide +kernel, rfl, by decide +kernel, by decide +kernel⟩
abbrev s_is_integer : Stmt := (top 7)
abbrev N_is_integer : List Str := ["value"]
theorem sc_is_integer : FnScope N_is_integer ["value"] (defScope s_is_integer) := ⟨rfl, rfl, rfl, by decide +kernel, rfl, by decide +kernel, by decide +kernel⟩
abbrev s_gives_integers : Stmt := (top 8)
abbrev N_gives_integers : List Str := ["value", "name"]
theorem sc_gives_integers : FnScope N_gives_integers ["value"] (defScope s_gives_integers) := ⟨rfl, rfl, rfl, by decide +kernel, rfl, by decide +kernel, by decide +kernel⟩
abbrev s_kept_numbers : Stmt := (top 9)
abbrev N_kept_numbers : List Str := ["numbers", "name"]
theorem sc_kept_numbers : FnScope N_kept_numbers ["numbers"] (defScope s_kept_numbers) := ⟨rfl, rfl, rfl, by decide +kernel, rfl, by decide +kernel, by decide +kernel⟩
abbrev s_plus : Stmt := (top 20)
abbrev N_plus : List Str := ["one", "other", "times", "numbers", "name"]
theorem sc_plus : FnScope N_plus ["one", "other", "times"] (defScope s_plus) := ⟨rfl, rfl, rfl, by decide +kernel, rfl, by decide +kernel, by decide +kernel⟩
abbrev s_law_pen : Stmt := (top 23)
abbrev N_law_pen : List Str := ["_law_script"]
theorem sc_law_pen : FnScope N_law_pen ["_law_script"] (defScope s_law_pen) := ⟨rfl, rfl, rfl, by decide +kernel, rfl, by decide +kernel, by decide +kernel⟩
abbrev s_law_draw : Stmt := (top 24)
abbrev N_law_draw : List Str := ["_law_pen_here", "_law_many", "_law_digit", "_law_at", "_law_cell", "_law_great_here", "_law_mixed"]
theorem sc_law_draw : FnScope N_law_draw ["_law_pen_here", "_law_many"] (defScope s_law_draw) := ⟨rfl, rfl, rfl, by decide +kernel, rfl, by decide +kernel, by decide +kernel⟩
abbrev s_law_pick : Stmt := (top 25)
abbrev N_law_pick : List Str := ["_law_pen_here", "_law_some"]
theorem sc_law_pick : FnScope N_law_pick ["_law_pen_here", "_law_some"] (defScope s_law_pick) := ⟨rfl, rfl, rfl, by decide +kernel, rfl, by decide +kernel, by decide +kernel⟩
abbrev s_law_great : Stmt := (top 26)
abbrev N_law_great : List Str := ["_law_pen_here", "_law_most", "_law_found", "_law_turn"]
theorem sc_law_great : FnScope N_law_great ["_law_pen_here", "_law_most"] (defScope s_law_great) := ⟨rfl, rfl, rfl, by decide +kernel, rfl, by decide +kernel, by decide +kernel⟩
abbrev s_law_whole : Stmt := (top 27)
abbrev N_law_whole : List Str := ["_law_pen_here", "_law_way", "_law_great_here"]
theorem sc_law_whole : FnScope N_law_whole ["_law_pen_here"] (defScope s_law_whole) := ⟨rfl, rfl, rfl, by decide +kernel, rfl, by decide +kernel, by decide +kernel⟩
abbrev s_law_box : Stmt := (top 28)
abbrev N_law_box : List Str := ["_law_pen_here", "_law_mate", "_law_found", "_law_menu", "_law_turn", "_law_label"]
theorem sc_law_box : FnScope N_law_box ["_law_pen_here", "_law_mate"] (defScope s_law_box) := ⟨rfl, rfl, rfl, by decide +kernel, rfl, by decide +kernel, by decide +kernel⟩
abbrev s_law_sum : Stmt := (top 29)
abbrev N_law_sum : List Str := ["_law_box_here", "_law_often", "_law_mate", "_law_times", "_law_found", "_law_label", "_law_number_so"]
theorem sc_law_sum : FnScope N_law_sum ["_law_box_here", "_law_often", "_law_mate", "_law_times"] (defScope s_law_sum) := ⟨rfl, rfl, rfl, by decide +kernel, rfl, by decide +kernel, by decide +kernel⟩
abbrev s_law_told : Stmt := (top 30)
abbrev N_law_told : List Str := ["_law_made", "_law_label"]
theorem sc_law_told : FnScope N_law_told ["_law_made"] (defScope s_law_told) := ⟨rfl, rfl, rfl, by decide +kernel, rfl, by decide +kernel, by decide +kernel⟩
abbrev s_Vector___init__ : Stmt := (inClass (top 19) 0)
abbrev N_Vector___init__ : List Str := ["self", "numbers"]
theorem sc_Vector___init__ : FnScope N_Vector___init__ ["self", "numbers"] (defScope s_Vector___init__) := ⟨rfl, rfl, rfl, by decide +kernel, rfl, by decide +kernel, by decide +kernel⟩
abbrev s_Vector_of : Stmt := (inClass (top 19) 1)
abbrev N_Vector_of : List Str := ["cls", "numbers"]
theorem sc_Vector_of : FnScope N_Vector_of ["cls", "numbers"] (defScope s_Vector_of) := ⟨rfl, rfl, rfl, by decide +kernel, rfl, by decide +kernel, by decide +kernel⟩
abbrev s_Vector_names : Stmt := (inClass (top 19) 4)
abbrev N_Vector_names : List Str := ["self"]
theorem sc_Vector_names : FnScope N_Vector_names ["self"] (defScope s_Vector_names) := ⟨rfl, rfl, rfl, by decide +kernel, rfl, by decide +kernel, by decide +kernel⟩
abbrev s_Vector___getitem__ : Stmt := (inClass (top 19) 5)
abbrev N_Vector___getitem__ : List Str := ["self", "at"]
theorem sc_Vector___getitem__ : FnScope N_Vector___getitem__ ["self", "at"] (defScope s_Vector___getitem__) := ⟨rfl, rfl, rfl, by decide +kernel, rfl, by decide +kernel, by decide +kernel⟩
abbrev s_Vector___len__ : Stmt := (inClass (top 19) 7)
abbrev N_Vector___len__ : List Str := ["self"]
theorem sc_Vector___len__ : FnScope N_Vector___len__ ["self"] (defScope s_Vector___len__) := ⟨rfl, rfl, rfl, by decide +kernel, rfl, by decide +kernel, by decide +kernel⟩
abbrev s_Vector___bool__ : Stmt := (inClass (top 19) 8)
abbrev N_Vector___bool__ : List Str := ["self"]
theorem sc_Vector___bool__ : FnScope N_Vector___bool__ ["self"] (defScope s_Vector___bool__) := ⟨rfl, rfl, rfl, by decide +kernel, rfl, by decide +kernel, by decide +kernel⟩
abbrev s_Vector___add__ : Stmt := (inClass (top 19) 10)
abbrev N_Vector___add__ : List Str := ["self", "other", "numbers"]
theorem sc_Vector___add__ : FnScope N_Vector___add__ ["self", "other"] (defScope s_Vector___add__) := ⟨rfl, rfl, rfl, by decide +kernel, rfl, by decide +kernel, by decide +kernel⟩
abbrev s_Vector___sub__ : Stmt := (inClass (top 19) 11)
abbrev N_Vector___sub__ : List Str := ["self", "other", "numbers"]
theorem sc_Vector___sub__ : FnScope N_Vector___sub__ ["self", "other"] (defScope s_Vector___sub__) := ⟨rfl, rfl, rfl, by decide +kernel, rfl, by decide +kernel, by decide +kernel⟩
abbrev s_Vector___neg__ : Stmt := (inClass (top 19) 12)
abbrev N_Vector___neg__ : List Str := ["self"]
theorem sc_Vector___neg__ : FnScope N_Vector___neg__ ["self"] (defScope s_Vector___neg__) := ⟨rfl, rfl, rfl, by decide +kernel, rfl, by decide +kernel, by decide +kernel⟩
abbrev s_Vector___mul__ : Stmt := (inClass (top 19) 13)
abbrev N_Vector___mul__ : List Str := ["self", "other", "numbers", "name"]
theorem sc_Vector___mul__ : FnScope N_Vector___mul__ ["self", "other"] (defScope s_Vector___mul__) := ⟨rfl, rfl, rfl, by decide +kernel, rfl, by decide +kernel, by decide +kernel⟩
abbrev s_Vector_dot : Stmt := (inClass (top 19) 14)
abbrev N_Vector_dot : List Str := ["self", "other", "name"]
theorem sc_Vector_dot : FnScope N_Vector_dot ["self", "other"] (defScope s_Vector_dot) := ⟨rfl, rfl, rfl, by decide +kernel, rfl, by decide +kernel, by decide +kernel⟩
abbrev s_Vector___eq__ : Stmt := (inClass (top 19) 15)
abbrev N_Vector___eq__ : List Str := ["self", "other"]
theorem sc_Vector___eq__ : FnScope N_Vector___eq__ ["self", "other"] (defScope s_Vector___eq__) := ⟨rfl, rfl, rfl, by decide +kernel, rfl, by decide +kernel, by decide +kernel⟩
abbrev s_law : Stmt := (top 31)
abbrev N_law : List Str := ["_law_script", "_law_pen_here", "_law_turn", "_law_box_here", "_law_mate", "_law_one", "_law_two", "_law_often", "_law_told_here", "_law_due", "_law_product_so", "_law_label"]
theorem sc_law : FnScope N_law ["_law_script"] (defScope s_law) := ⟨rfl, rfl, rfl, by decide +kernel, rfl, by decide +kernel, by decide +kernel⟩



local macro_rules
  | `(tactic| walk_at "hlook") => `(tactic| first
    | assumption
    | exact upd_same
    | (refine' look_past ?h1 ?h2; (case h1 => walk_at "hne"); (case h2 => walk_at "hlook")))
local macro_rules
  | `(tactic| walk_at "hne") => `(tactic| first
    | assumption
    | exact Ne.symm (by assumption)
    | (refine' ne_of_none ?h1 ?h2; (case h2 => assumption); (case h1 => walk_at "hlook")))
local macro_rules
  | `(tactic| walk_at "hside") => `(tactic| first
    | exact Or.inl ⟨by decide, by decide⟩
    | exact Or.inr ⟨by decide, by decide⟩
    | exact Or.inl ⟨by omega, by omega⟩
    | exact Or.inr ⟨by omega, by omega⟩
    | (show (0 : Int) < _; first | decide | omega)
    | (show _ ≠ (0 : Int); first | decide | omega)
    | exact ⟨by decide, by decide⟩
    | exact ⟨by omega, by omega⟩
    | exact ⟨by decide, by decide, by decide⟩
    | exact ⟨by decide, by decide, by omega⟩
    | (refine pow3_ok ?_ ?_ ?_ ?_ ?_ ?_ ?_ ?_ ?_ ?_ <;> omega))
local macro_rules
  | `(tactic| walk_at "hs") => `(tactic| first
    | ((with_reducible show Ends.rt _ _ _); (with_reducible refine g_rt ?_))
    | ((with_reducible show Ends.nx _ _ _); (with_reducible refine g_nx ?_))
    | ((with_reducible refine' g_var ?h1 ?h2); (case h1 => rfl))
    | with_reducible refine g_c ?_
    | with_reducible refine g_op ?_
    | with_reducible refine g_cons ?_
    | with_reducible refine g_nil ?_
    | with_reducible refine g_cb ?_
    | with_reducible refine g_I0 ?_
    | with_reducible refine g_asg ?_
    | ((with_reducible refine' g_nameR ?h1 ?h2); (case h1 => first | (dsimp only [List.set]; exact rfl) | exact rfl))
    | with_reducible refine g_ret ?_
    | with_reducible refine g_retN ?_
    | with_reducible refine g_next ?_
    | with_reducible refine g_ifs ?_
    | with_reducible refine g_test ?_
    | with_reducible refine g_B ?_
    | with_reducible refine g_bl ?_
    | with_reducible refine g_un ?_
    | with_reducible refine g_neg ?_
    | with_reducible refine g_intI ?_
    | with_reducible refine g_intB ?_
    | with_reducible refine g_abs ?_
    | with_reducible refine g_call ?_
    | with_reducible refine g_callK ?_
    | with_reducible refine g_and ?_
    | with_reducible refine g_or ?_
    | with_reducible refine g_not ?_
    | with_reducible refine g_andV ?_
    | with_reducible refine g_orV ?_
    | with_reducible refine g_notV ?_
    | with_reducible refine g_ifx ?_
    | with_reducible refine g_tup ?_
    | with_reducible refine g_lst ?_
    | with_reducible refine g_sl ?_
    | with_reducible refine g_part ?_
    | with_reducible refine g_part1 ?_
    | with_reducible refine g_nopart ?_
    | with_reducible refine g_sub ?_
    | with_reducible refine g_drop ?_
    | with_reducible refine g_yes ?_
    | with_reducible refine g_m0 ?_
    | with_reducible refine g_rng1 ?_
    | with_reducible refine g_tyS ?_
    | with_reducible refine g_dnew ?_
    | with_reducible refine g_disp1 ?_
    | with_reducible refine g_true rfl ?_
    | with_reducible refine g_false rfl ?_
    | with_reducible refine g_for ?_
    | with_reducible refine g_lc ?_
    | with_reducible refine g_iL ?_
    | with_reducible refine g_iT ?_
    | with_reducible refine g_iS ?_
    | with_reducible refine g_atS ?_
    | with_reducible refine g_m1 ?_
    | with_reducible refine g_isStr ?_
    | with_reducible refine g_txtB ?_
    | with_reducible refine g_notInS ?_
    | with_reducible refine g_chain ?_
    | with_reducible refine g_newE ?_
    | with_reducible refine g_lstX ?_
    | with_reducible refine g_fld ?_
    | with_reducible refine g_ls ?_
    | ((with_reducible refine g_new ?_ ?_); focus (exact small_of (by simp)))
    | ((with_reducible refine g_new ?_ ?_); focus (decide))
    | ((with_reducible refine g_I ?_ ?_); focus (walk_at "hside"))
    | ((with_reducible refine g_eq ?_ ?_); focus rfl)
    | ((with_reducible refine g_ne ?_ ?_); focus rfl)
    | ((with_reducible refine' g_ixL (SqL.of ?h1) ?h2 ?h3); (case h1 => walk_at "hlook"); (case h2 => rfl))
    | ((with_reducible refine' g_lenL (SqL.of ?h1) ?h2); (case h1 => walk_at "hlook"))
    | ((with_reducible refine' g_setL ?h1 ?h2 ?h3); (case h1 => walk_at "hlook"); (case h2 => rfl)))
local macro_rules
  | `(tactic| walk_at "hx") => `(tactic| repeat (walk_at "hs"))
local macro_rules
  | `(tactic| walk_at "hline") => `(tactic| ((with_reducible refine g_seq ?_); repeat (walk_at "hs")))
local macro_rules
  | `(tactic| walk_at "hgo") => `(tactic| repeat (first | with_reducible refine g_seq ?_ | walk_at "hs"))
local macro_rules
  | `(tactic| walk_at "hm") => `(tactic| repeat (first | with_reducible refine g_seq ?_ | ((with_reducible refine g_modC ?_ ?_); focus (decide); focus (intro x hx0 hx1)) | walk_at "hs"))
open KwX ClX
/-- the pen at q: the cells, at most b draws so far -/
structure Pen (H : Hp) (q : Addr) (b : Nat) : Prop where
  ex : ∃ (c : Addr) (ns : List Int) (z left : Int), H q = some (.lst [.ref c, .int z, .int left]) ∧ H c = some (.lst (ns.map V.int)) ∧ 0 ≤ z ∧ z ≤ b ∧ 0 ≤ left ∧ ns.length ≤ 63
/-- all but q stands -/
structure But (q : Addr) (H H' : Hp) : Prop where
  st : ∀ a o, a ≠ q → H a = some o → H' a = some o
  cl : ∀ c x y, H q = some (.lst [.ref c, x, y]) → ∃ x' y', H' q = some (.lst [.ref c, x', y'])
structure TxtD (mg : Str → Option Value) : Prop where
  int : mg "int" = none
  len : mg "len" = none
  abs : mg "abs" = none
def spDraw : Sp := fun vs H Q _ => ∃ (q : Addr) (m : Int) (b : Nat), vs = [.ref q, .int m] ∧ Pen H q b ∧ b ≤ 100000 ∧ 1 ≤ m ∧ m ≤ 10000000 ∧ ∀ (d : Int) (H' : Hp), 0 ≤ d → d < m → Pen H' q (b + 1) → But q H H' → Q (.int d) H'
theorem pen_ne {H : Hp} {q c : Addr} {ns : List Int} {z left : Int} (h1 : H q = some (.lst [.ref c, .int z, .int left])) (h2 : H c = some (.lst (ns.map V.int))) : c ≠ q := by
  refine ne_of h2 h1 fun e => ?_
  cases ns with
  | nil => cases e
  | cons a r => cases e
theorem fmod_in {x m : Int} (h : 1 ≤ m) : 0 ≤ x.fmod m ∧ x.fmod m < m := by
  rw [Int.fmod_eq_emod_of_nonneg x (by omega)]
  exact ⟨Int.emod_nonneg x (by omega), Int.emod_lt_of_pos x (by omega)⟩
theorem fdiv_in {x m : Int} (h : 1 ≤ m) (hx : 0 ≤ x) : 0 ≤ x.fdiv m := by
  rw [Int.fdiv_eq_ediv_of_nonneg x (by omega)]
  exact Int.ediv_nonneg hx (by omega)
theorem But.self {q : Addr} {H : Hp} : But q H H := ⟨fun _ _ _ e => e, fun _ x y e => ⟨x, y, e⟩⟩
theorem But.trans {q : Addr} {H H1 H2 : Hp} (a : But q H H1) (b : But q H1 H2) : But q H H2 := by
  refine ⟨fun x o n e => b.st x o n (a.st x o n e), fun c x y e => ?_⟩
  obtain ⟨x', y', e'⟩ := a.cl c x y e
  exact b.cl c x' y' e'
theorem But.of {q : Addr} {H H1 : Hp} (a : Same H H1) : But q H H1 := ⟨fun x o _ e => a x o e, fun c x y e => ⟨x, y, a _ _ e⟩⟩
theorem but_upd {q c : Addr} {H : Hp} {x y x' y' : V} (h : H q = some (.lst [.ref c, x, y])) : But q H (upd H q (.lst [.ref c, x', y'])) := by
  refine ⟨fun a u n e => ?_, fun d z w e => ?_⟩
  · rw [upd_ne n]
    exact e
  · rw [h] at e
    cases e
    exact ⟨x', y', upd_same⟩
theorem But.upd {q c : Addr} {H H' : Hp} {x y x' y' : V} (b : But q H H') (h : H' q = some (.lst [.ref c, x, y])) : But q H (L2.upd H' q (.lst [.ref c, x', y'])) := b.trans (but_upd h)
theorem same_new {p : Addr} {H : Hp} {o : HO} (hp : H p = none) : Same H (L2.upd H p o) := fun a u e => by
  rw [upd_ne (ne_of_none e hp)]
  exact e
theorem But.new {q p : Addr} {H H' : Hp} {o : HO} (h : But q H H') (hp : H' p = none) : But q H (L2.upd H' p o) := h.trans (.of (same_new hp))
theorem But.free {q p : Addr} {H H' : Hp} (h : But q H H') (n : p ≠ q) (hp : H' p = none) : H p = none := by
  cases e : H p with
  | none => rfl
  | some o =>
    rw [h.st p o n e] at hp
    cases hp
theorem at_fmod {ns : List Int} (h : ns ≠ []) (x : Int) : ∃ v, atI (ns.map V.int) (x.fmod ((ns.map V.int).length : Int)) = some (.int v) := by
  have hl : 0 < ns.length := List.length_pos_iff.mpr h
  obtain ⟨h0, h1⟩ := fmod_in (x := x) (m := ((ns.map V.int).length : Int)) (by rw [List.length_map]; omega)
  obtain ⟨j, hj⟩ : ∃ j : Nat, x.fmod ((ns.map V.int).length : Int) = (j : Int) := ⟨(x.fmod ((ns.map V.int).length : Int)).toNat, by omega⟩
  rw [hj]
  rw [hj, List.length_map] at h1
  have hlt : j < ns.length := by omega
  refine ⟨ns[j], ?_⟩
  refine atI_nat ?_
  rw [List.getElem?_map, List.getElem?_eq_getElem hlt]
  rfl
section
variable {P : Program} {w : World} {K : PySem.W.Frag} {mg : Str → Option Value} {base : Heap}
theorem ok_law_draw {f : Addr} {fd : FuncData} (F : Fun K "_law_draw" "_law_draw" s_law_draw f fd) (T : TxtD mg) : FnOk P w K mg base CX0 1 f fd ["_law_pen_here", "_law_many"] spDraw := by
  refine F.ok sc_law_draw (fun vs H Q E h => ?_) (fun cdv A outer s H vs Q E hr h => ?_)
  · obtain ⟨q, m, b, rfl, _⟩ := h
    rfl
  · obtain ⟨q, m, b, rfl, ⟨c, ns, z, left, hq, hc, z0, zb, l0, len⟩, hb, m1, m2, k⟩ := h
    have hu := hu_of hr
    have ncq : c ≠ q := pen_ne hq hc
    have fm := fun x : Int => fmod_in (x := x) m1
    refine ⟨_, (pss_cons (ps_if (pt_cmpR op_gt (pe_ix ix_list (pv 0) pe_int (fun _ _ => rfl)) pe_int (nomark _)) (pss_cons (ps_set (i := 2) sc_law_draw.nd rfl (Or.inl rfl) (pe_op op_modN (pe_callTy call_intI (by rfl) T.int (by decide +kernel) (pa_cons (pe_ix ix_list (pv 0) pe_int (fun _ _ => rfl)) pa_nil)) (pv 1)))
      (pss_cons (ps_asg (pe_op op_fdivN (pe_callTy call_intI (by rfl) T.int (by decide +kernel) (pa_cons (pe_ix ix_list (pv 0) pe_int (fun _ _ => rfl)) pa_nil)) (pv 1)) (pg_sub (pv 0) pe_int set_list))
      (pss_one (ps_ret (pv 2))))) pss_nil)
      (pss_cons (ps_set (i := 3) sc_law_draw.nd rfl (Or.inl rfl) (pe_ix ix_list (pv 0) pe_int (fun _ _ => rfl)))
      (pss_cons (ps_asg (pe_op op_add (pv 3) pe_int) (pg_sub (pv 0) pe_int set_list))
      (pss_cons (ps_set (i := 4) sc_law_draw.nd rfl (Or.inl rfl) (pe_op op_add (pe_op op_mul pe_int (pv 3)) pe_int))
      (pss_cons (ps_if (pt_cmpR (op_neD (hr.units)) (pe_ix ix_list (pv 0) pe_int (fun _ _ => rfl)) (pe_lst pa_nil) (nomark _)) (pss_one (ps_set (i := 4) sc_law_draw.nd rfl (Or.inl rfl) (pe_ix ix_list (pe_ix ix_list (pv 0) pe_int (fun _ _ => rfl)) (pe_op op_modN (pe_callTy call_intI (by rfl) T.int (by decide +kernel) (pa_cons (pv 3) pa_nil)) (pe_callB call_lenL (by rfl) T.len (by decide +kernel) (pa_cons (pe_ix ix_list (pv 0) pe_int (fun _ _ => rfl)) pa_nil))) (fun _ _ => rfl)))) pss_nil)
      (pss_cons (ps_if (PW.pt (pw_and (pt_cmpR op_lt (pv 3) (pe_callB call_lenL (by rfl) T.len (by decide +kernel) (pa_cons (pe_ix ix_list (pv 0) pe_int (fun _ _ => rfl)) pa_nil)) (nomark _)) (pw_and1 (pt_cmpR op_ge (pe_callB call_absI (by rfl) T.abs (by decide +kernel) (pa_cons (pv 4) pa_nil)) (pe_op op_pow pe_int pe_int) (nomark _))))) (pss_cons (ps_set (i := 5) sc_law_draw.nd rfl (Or.inl rfl) (pe_op op_add (pe_op op_mul pe_int (pe_op op_sub (pe_callB call_absI (by rfl) T.abs (by decide +kernel) (pa_cons (pv 4) pa_nil)) (pe_op op_pow pe_int pe_int))) (pe_callTy call_intB (by rfl) T.int (by decide +kernel) (pa_cons (pe_cmpR op_lt (pv 4) pe_int (nomark _)) pa_nil))))
      (pss_cons (ps_asg (pe_op op_fdivN (pv 5) (pv 1)) (pg_sub (pv 0) pe_int set_list))
      (pss_one (ps_ret (pe_op op_modN (pe_callTy call_intI (by rfl) T.int (by decide +kernel) (pa_cons (pv 5) pa_nil)) (pv 1)))))) pss_nil)
      (pss_cons (ps_set (i := 6) sc_law_draw.nd rfl (Or.inl rfl) (pe_op op_mod (pe_callTy call_intI (by rfl) T.int (by decide +kernel) (pa_cons (pe_op op_pow (pe_op op_add (pe_op op_add (pe_op op_mod (pe_callTy call_intI (by rfl) T.int (by decide +kernel) (pa_cons (pv 4) pa_nil)) pe_int) (pe_op op_mul pe_int (pv 3))) pe_int) pe_int) pa_nil)) pe_int))
      (pss_cons (ps_set (i := 6) sc_law_draw.nd rfl (Or.inl rfl) (pe_op op_mod (pe_callTy call_intI (by rfl) T.int (by decide +kernel) (pa_cons (pe_op op_pow (pe_op op_add (pe_op op_add (pe_op op_mul (pv 6) (pe_op op_add (pe_op op_mul pe_int (pv 3)) pe_int)) (pe_op op_mul (pe_op op_mul pe_int (pv 3)) (pv 3))) pe_int) pe_int) pa_nil)) pe_int))
      (pss_one (ps_ret (pe_op op_modN (pe_callTy call_intI (by rfl) T.int (by decide +kernel) (pa_cons (pe_op op_fdiv (pv 6) pe_int) pa_nil)) (pv 1)))))))))))), ?_⟩
    dsimp only [cxOf]
    walk_at "hgo"
    refine ite2 (fun c1 => ?_) (fun c1 => ?_)
    · walk_at "hgo"
      refine k _ _ (fm _).1 (fm _).2 ⟨c, ns, z, _, upd_same, look_past ncq hc, z0, by omega, fdiv_in m1 l0, len⟩ (but_upd hq)
    · walk_at "hx"
      walk_at "hline"
      walk_at "hline"
      walk_at "hline"
      refine g_cut (fun σ' H' => ∃ cell, σ' = [some (.ref q), some (.int m), none, some (.int z), some (.int cell), none, none] ∧ H' q = some (.lst [.ref c, .int (z + 1), .int left]) ∧ H' c = some (.lst (ns.map V.int)) ∧ But q H H') ?_ ?_
      · rintro σ' H2 ⟨cell, rfl, hq2, hc2, bt⟩
        clear hq hc
        refine g_cut (fun σ' H' => σ' = [some (.ref q), some (.int m), none, some (.int z), some (.int cell), none, none] ∧ H' = H2) ?_ ?_
        · rintro σ' H' ⟨rfl, rfl⟩
          walk_at "hm"
          refine k _ _ (fm _).1 (fm _).2 ⟨c, ns, z + 1, left, hq2, hc2, by omega, by omega, l0, len⟩ bt
        · intro R hR
          walk_at "hx"
          refine ite2 (fun c2 => ?_) (fun c2 => ?_)
          · walk_at "hx"
            refine ite2 (fun c3 => ?_) (fun c3 => ?_)
            · walk_at "hgo"
              have big := of_decide_eq_true c3
              refine k _ _ (fm _).1 (fm _).2 ⟨c, ns, z + 1, _, upd_same, look_past ncq hc2, by omega, by omega, fdiv_in m1 ?_, len⟩ (bt.upd hq2)
              have p18 : (10 : Int) ^ Int.toNat 18 = 1000000000000000000 := by decide
              split <;> omega
            · walk_at "hx"
              exact hR _ _ ⟨rfl, rfl⟩
          · walk_at "hx"
            exact hR _ _ ⟨rfl, rfl⟩
      · intro R hR
        walk_at "hx"
        intro p hp
        have hq1 := look_past (o := .lst []) (ne_of_none (look_same rfl rfl) hp) (show upd H q (.lst ([V.ref c, V.int z, V.int left].set (Int.toNat 1) (V.int (z + 1)))) q = some (.lst [V.ref c, V.int (z + 1), V.int left]) from upd_same)
        have hc0 : upd H q (.lst ([V.ref c, V.int z, V.int left].set (Int.toNat 1) (V.int (z + 1)))) c = some (.lst (ns.map V.int)) := look_past ncq hc
        have hc1 := look_past (o := .lst []) (ne_of_none hc0 hp) hc0
        have bt : But q H (upd (upd H q (.lst ([V.ref c, V.int z, V.int left].set (Int.toNat 1) (V.int (z + 1))))) p (.lst [])) := (but_upd (x' := V.int (z + 1)) (y' := V.int left) hq).new hp
        refine g_neD (.lst (SqL.of hc1) (dp_ints ns)) (.lst (SqL.of upd_same) .nil) (shapedInts ns) (by decide +kernel) ?_
        rw [eqvInts0]
        generalize upd (upd H q (.lst ([V.ref c, V.int z, V.int left].set (Int.toNat 1) (V.int (z + 1))))) p (.lst []) = H2 at hq1 hc1 bt ⊢
        walk_at "hx"
        by_cases hn : ns = []
        · refine g_false (by simp [hn]) ?_
          walk_at "hx"
          exact hR _ _ ⟨_, rfl, hq1, hc1, bt⟩
        · refine g_true (by simp [hn]) ?_
          obtain ⟨v, hv⟩ := at_fmod hn z
          have hl : 0 < ns.length := List.length_pos_iff.mpr hn
          walk_at "hx"
          refine g_I (by show _ ≠ (0 : Int); rw [List.length_map]; omega) ?_
          refine g_ixL (SqL.of hc1) hv ?_
          walk_at "hx"
          exact hR _ _ ⟨v, rfl, hq1, hc1, bt⟩
end

theorem Pen.at {H : Hp} {q : Addr} {b : Nat} (p : Pen H q b) : ∃ xs, H q = some (.lst xs) := by
  obtain ⟨c, ns, z, left, h, _⟩ := p
  exact ⟨_, h⟩
theorem Pen.ne {H : Hp} {q p : Addr} {b : Nat} (h : Pen H q b) (hp : H p = none) : p ≠ q := by
  obtain ⟨xs, e⟩ := h.at
  exact (ne_of_none e hp).symm
theorem Pen.same {H H' : Hp} {q : Addr} {b : Nat} (h : Pen H q b) (s : Same H H') : Pen H' q b := by
  obtain ⟨c, ns, z, left, h1, h2, r⟩ := h
  exact ⟨c, ns, z, left, s _ _ h1, s _ _ h2, r⟩
theorem Pen.new {H : Hp} {q p : Addr} {b : Nat} {o : HO} (h : Pen H q b) (hp : H p = none) : Pen (upd H p o) q b := h.same fun x u e => by
  rw [upd_ne (ne_of_none e hp)]
  exact e
theorem Pen.more {H : Hp} {q : Addr} {b b' : Nat} (h : Pen H q b) (l : b ≤ b') : Pen H q b' := by
  obtain ⟨c, ns, z, left, h1, h2, z0, zb, r⟩ := h
  exact ⟨c, ns, z, left, h1, h2, z0, by omega, r⟩
/-- the pen at q and what was known of H -/
structure Led (q : Addr) (b : Nat) (H H' : Hp) : Prop where
  pen : Pen H' q b
  but : But q H H'
theorem Led.new {q p : Addr} {b : Nat} {H H' : Hp} {o : HO} (l : Led q b H H') (hp : H' p = none) : Led q b H (upd H' p o) := ⟨l.pen.new hp, l.but.new hp⟩
theorem Led.draw {q : Addr} {b : Nat} {H H1 H2 : Hp} (l : Led q b H H1) (p : Pen H2 q (b + 1)) (t : But q H1 H2) : Led q (b + 1) H H2 := ⟨p, l.but.trans t⟩
/-- what was new ahead of draws may be changed behind them -/
theorem Led.keep {q p : Addr} {b b3 : Nat} {H H3 H5 : Hp} {o : HO} (l : Led q b H H5) (P3 : Pen H3 q b3) (hp : H3 p = none) (t3 : But q H H3) (t5 : But q H3 H5) : Led q b H (upd H5 p o) := by
  have n := P3.ne hp
  have hH := t3.free n hp
  obtain ⟨c, ns, z, left, h1, h2, _⟩ := P3
  have npc : c ≠ p := ne_of_none h2 hp
  obtain ⟨x', y', h5⟩ := t5.cl c _ _ h1
  obtain ⟨⟨c', ns', z', left', g1, g2, r⟩, bt⟩ := l
  rw [h5] at g1
  cases g1
  refine ⟨⟨c, ns', z', left', ?_, ?_, r⟩, ?_, ?_⟩
  · rw [upd_ne n.symm]
    exact h5
  · rw [upd_ne npc]
    exact g2
  · intro a u na e
    rw [upd_ne (ne_of_none e hH)]
    exact bt.st a u na e
  · intro d x y e
    rw [upd_ne n.symm]
    exact bt.cl d x y e
theorem cut_ints (ns : List Int) (lo hi : Option Int) : ∃ ms : List Int, cutV (ns.map V.int) lo hi = ms.map V.int ∧ ms.length ≤ ns.length := by
  unfold cutV
  refine ⟨(ns.drop (HT.sIx (ns.map V.int).length 0 lo)).take (HT.sIx (ns.map V.int).length (ns.map V.int).length hi - HT.sIx (ns.map V.int).length 0 lo), ?_, ?_⟩
  · rw [List.map_take, List.map_drop]
  · rw [List.length_take, List.length_drop]
    omega
structure TxtP (mg : Str → Option Value) : Prop where
  list : mg "list" = none
  len : mg "len" = none
  range : mg "range" = none
structure Has (K : PySem.W.Frag) (mg : Str → Option Value) (fD : Addr) (fdD : FuncData) : Prop where
  g_law_draw : mg "_law_draw" = some (.ref fD)
def spPen (K : PySem.W.Frag) : Sp := fun vs H Q _ => ∃ (a : Addr) (ns : List Int), vs = [.ref a] ∧ SqL K H a (ns.map V.int) ∧ ns.length ≤ 63 ∧ ∀ (q : Addr) (H' : Hp), H q = none → Pen H' q 0 → Same H H' → Q (.ref q) H'
def spPick : Sp := fun vs H Q _ => ∃ (q l : Addr) (b : Nat) (xs : List V), vs = [.ref q, .ref l] ∧ Pen H q b ∧ b ≤ 100000 ∧ l ≠ q ∧ H l = some (.lst xs) ∧ xs ≠ [] ∧ xs.length ≤ 1000 ∧ ∀ (v : V) (H' : Hp), v ∈ xs → Pen H' q (b + 1) → But q H H' → Q v H'
def spGreat : Sp := fun vs H Q _ => ∃ (q : Addr) (m : Int) (b : Nat), vs = [.ref q, .int m] ∧ Pen H q b ∧ b ≤ 90000 ∧ 1 ≤ m ∧ m ≤ 100 ∧ ∀ (g : Int) (H' : Hp), g.natAbs ≤ 10 ^ 100 → Pen H' q (b + 2) → But q H H' → Q (.int g) H'
theorem pick_at {xs : List V} {d : Int} (h0 : 0 ≤ d) (h1 : d < (xs.length : Int)) : ∃ v, v ∈ xs ∧ atI xs d = some v := by
  obtain ⟨j, rfl⟩ : ∃ j : Nat, d = (j : Int) := ⟨d.toNat, by omega⟩
  have hj : j < xs.length := by omega
  exact ⟨xs[j], List.getElem_mem hj, atI_nat (List.getElem?_eq_getElem hj)⟩
section
variable {P : Program} {w : World} {K : PySem.W.Frag} {mg : Str → Option Value} {base : Heap}
theorem ok_law_pen {f : Addr} {fd : FuncData} (F : Fun K "_law_pen" "_law_pen" s_law_pen f fd) (T : TxtP mg) : FnOk P w K mg base CX0 1 f fd ["_law_script"] (spPen K) := by
  refine F.ok sc_law_pen (fun vs H Q E h => ?_) (fun cdv A outer s H vs Q E hr h => ?_)
  · obtain ⟨a, ns, rfl, _⟩ := h
    rfl
  · obtain ⟨a, ns, rfl, hS, len, k⟩ := h
    refine ⟨_, (pss_one (ps_ret (pe_lst (pa_cons (pe_callTy call_listL (by rfl) T.list (by decide +kernel) (pa_cons (pe_slice sl_list (pv 0) po_none (po_some pe_int)) pa_nil)) (pa_cons pe_int (pa_cons pe_int pa_nil)))))), ?_⟩
    try dsimp only [cxOf]
    walk_at "hgo"
    refine g_slL hS ?_
    intro p hp
    walk_at "hgo"
    refine g_listL (SqL.of upd_same) ?_
    intro c hc
    walk_at "hgo"
    intro q hq
    obtain ⟨ms, e, l⟩ := cut_ints ns none (some 63)
    have npc : p ≠ c := (gone_past hc).1.symm
    have hq1 := gone_past hq
    have hq2 := gone_past hq1.2
    walk_at "hgo"
    refine k q _ hq2.2 ⟨c, ms, 0, 0, upd_same, ?_, by omega, by omega, by omega, by omega⟩ ?_
    · rw [upd_ne hq1.1.symm, upd_same, e]
    · intro b o eb
      rw [upd_ne (ne_of_none eb hq2.2), upd_ne (ne_of_none eb (gone_past hc).2), upd_ne (ne_of_none eb hp)]
      exact eb
variable {f_law_draw : Addr} {fd_law_draw : FuncData}
theorem ok_law_pick {f : Addr} {fd : FuncData} (F : Fun K "_law_pick" "_law_pick" s_law_pick f fd) (TD : TxtD mg) (T : TxtP mg)
    (F_law_draw : Fun K "_law_draw" "_law_draw" s_law_draw f_law_draw fd_law_draw) (b_law_draw : Binds K fd_law_draw ["_law_pen_here", "_law_many"] []) (g_law_draw : mg "_law_draw" = some (.ref f_law_draw)) :
    FnOk P w K mg base CX0 2 f fd ["_law_pen_here", "_law_some"] spPick := by
  have G_law_draw : FnOk P w K mg base CX0 1 f_law_draw fd_law_draw ["_law_pen_here", "_law_many"] spDraw := ok_law_draw F_law_draw TD
  refine F.ok sc_law_pick (fun vs H Q E h => ?_) (fun cdv A outer s H vs Q E hr h => ?_)
  · obtain ⟨q, l, b, xs, rfl, _⟩ := h
    rfl
  · obtain ⟨q, l, b, xs, rfl, hP, hb, nlq, hl, ne, len, k⟩ := h
    refine ⟨_, (pss_one (ps_ret (pe_ix ix_list (pv 1) (pe_call G_law_draw (hr.mono (by decide)) (by rfl) g_law_draw F_law_draw.kp b_law_draw .nil pass0 (pa_cons (pv 0) (pa_cons (pe_callB call_lenL (by rfl) T.len (by decide +kernel) (pa_cons (pv 1) pa_nil)) pa_nil))) (fun _ _ => rfl)))), ?_⟩
    try dsimp only [cxOf]
    walk_at "hgo"
    have hn : 0 < xs.length := List.length_pos_iff.mpr ne
    refine ⟨q, (xs.length : Int), b, rfl, hP, hb, by omega, by omega, ?_⟩
    intro d H1 d0 d1 P1 t1
    walk_at "hgo"
    obtain ⟨v, hv, ha⟩ := pick_at d0 d1
    refine g_ixL (SqL.of (t1.st l _ nlq hl)) ha ?_
    walk_at "hgo"
    exact k v H1 hv P1 t1
theorem ok_law_great {f : Addr} {fd : FuncData} (F : Fun K "_law_great" "_law_great" s_law_great f fd) (TD : TxtD mg) (T : TxtP mg)
    (F_law_draw : Fun K "_law_draw" "_law_draw" s_law_draw f_law_draw fd_law_draw) (b_law_draw : Binds K fd_law_draw ["_law_pen_here", "_law_many"] []) (g_law_draw : mg "_law_draw" = some (.ref f_law_draw)) :
    FnOk P w K mg base CX0 2 f fd ["_law_pen_here", "_law_most"] spGreat := by
  have G_law_draw : FnOk P w K mg base CX0 1 f_law_draw fd_law_draw ["_law_pen_here", "_law_many"] spDraw := ok_law_draw F_law_draw TD
  refine F.ok sc_law_great (fun vs H Q E h => ?_) (fun cdv A outer s H vs Q E hr h => ?_)
  · obtain ⟨q, m, b, rfl, _⟩ := h
    rfl
  · obtain ⟨q, m, b, rfl, hP, hb, m1, m2, k⟩ := h
    refine ⟨_, (pss_cons (ps_set (i := 2) sc_law_great.nd rfl (Or.inl rfl) pe_int)
      (pss_cons (ps_for PassesOwn.never rfl (pi_range1 rfl T.range (pa_cons (pe_call G_law_draw (hr.mono (by decide)) (by rfl) g_law_draw F_law_draw.kp b_law_draw .nil pass0 (pa_cons (pv 0) (pa_cons (pv 1) pa_nil))) pa_nil)) (pg_name (i := 3) sc_law_great.nd rfl (Or.inl rfl)) (pss_one (ps_set (i := 2) sc_law_great.nd rfl (Or.inl rfl) (pe_op op_mul pe_int (pv 2)))))
      (pss_one (ps_ret (pe_op op_sub (pv 2) (pe_call G_law_draw (hr.mono (by decide)) (by rfl) g_law_draw F_law_draw.kp b_law_draw .nil pass0 (pa_cons (pv 0) (pa_cons pe_int pa_nil)))))))), ?_⟩
    try dsimp only [cxOf]
    walk_at "hline"
    walk_at "hline"
    refine ⟨q, m, b, rfl, hP, by omega, m1, by omega, ?_⟩
    intro d H1 d0 d1 P1 t1
    walk_at "hx"
    refine g_rng (by omega) (by omega) ?_
    refine for_range (n := d.toNat) (fun i σ' H' => (∃ y, σ' = [some (.ref q), some (.int m), some (.int (10 ^ i)), y]) ∧ H' = H1) ⟨⟨none, rfl⟩, rfl⟩ ?_ ?_
    · rintro i σ' H2 hi ⟨⟨y, rfl⟩, rfl⟩
      walk_at "hgo"
      refine ⟨⟨some (.int (0 + (i : Int))), ?_⟩, rfl⟩
      rw [Int.pow_succ, Int.mul_comm]
      rfl
    · rintro σ' H2 ⟨⟨y, rfl⟩, rfl⟩
      walk_at "hgo"
      refine ⟨q, 2, b + 1, rfl, P1, by omega, by decide, by decide, ?_⟩
      intro e H3 e0 e1 P3 t3
      walk_at "hgo"
      refine k _ H3 ?_ P3 (t1.trans t3)
      have h1 : (10 : Int) ^ d.toNat ≤ 10 ^ 100 := by
        have : (10 : Nat) ^ d.toNat ≤ 10 ^ 100 := Nat.pow_le_pow_right (by decide) (by omega)
        exact_mod_cast this
      have h0 : (1 : Int) ≤ 10 ^ d.toNat := by
        have : (1 : Nat) ≤ 10 ^ d.toNat := Nat.one_le_pow _ _ (by decide)
        exact_mod_cast this
      generalize (10 : Int) ^ d.toNat = g at h0 h1 ⊢
      have big : (10 : Int) ^ 100 = ((10 ^ 100 : Nat) : Int) := by norm_cast
      generalize hz : (10 : Nat) ^ 100 = z at big ⊢
      rw [big] at h1
      omega
end

/-- a value of the law: its kind, by name -/
inductive Kd (K : PySem.W.Frag) (H : Hp) : V → String → Prop
  | non : Kd K H .non "NoneType"
  | bl (b : Bool) : Kd K H (.bl b) "bool"
  | int (i : Int) : Kd K H (.int i) "int"
  | str (s : Str) : s.length ≤ 10000 → PyData.strOk s = true → Kd K H (.str s) "str"
  | lst {a : Addr} {xs : List V} : H a = some (.lst xs) → Kd K H (.ref a) "list"
  | tup {a : Addr} {xs : List V} : H a = some (.tup xs) → Kd K H (.ref a) "tuple"
  | dK {a : Addr} {kvs : List (Key × V)} : H a = some (.dK kvs) → Kd K H (.ref a) "dict"
theorem Kd.ty {K : PySem.W.Frag} {H : Hp} {v : V} {n : String} (h : Kd K H v n) : TyX K H v (.type n) := by
  cases h with
  | non => exact .base .non
  | bl b => exact .base (.bl b)
  | int i => exact .base (.int i)
  | str s _ _ => exact .base (.str s)
  | lst e => exact .base (.lst e)
  | tup e => exact .base (.tup e)
  | dK e => exact .base (.dK e)
def isS : V → Bool
  | .str _ => true
  | _ => false
def isI : V → Bool
  | .int _ => true
  | _ => false
def isB : V → Bool
  | .bl _ => true
  | _ => false
theorem Kd.isStr {K : PySem.W.Frag} {H : Hp} {v : V} {n : String} (h : Kd K H v n) : kitB n "str" = some (isS v) := by
  cases h <;> first | (show _ = some true; decide +kernel) | (show _ = some false; decide +kernel)
theorem Kd.isInt {K : PySem.W.Frag} {H : Hp} {v : V} {n : String} (h : Kd K H v n) : kitB n "int" = some (isI v || isB v) := by
  cases h <;> first | (show _ = some true; decide +kernel) | (show _ = some false; decide +kernel)
theorem Kd.isBool {K : PySem.W.Frag} {H : Hp} {v : V} {n : String} (h : Kd K H v n) : kitB n "bool" = some (isB v) := by
  cases h <;> first | (show _ = some true; decide +kernel) | (show _ = some false; decide +kernel)
def letters : Str := Str.ofString "abcdefghijklmnopqrstuvwxyz"
def okS (s : Str) : Bool := decide (0 < s.length) && decide (s.length < 9) && !decide (s = Str.ofString "self") && s.cps.toList.all fun c => decide (c ∈ letters.cps.toList)
def okV : V → Bool
  | .str s => okS s
  | _ => false
theorem letters_is : letters.cps.toList = List.range' 97 26 := by decide +kernel
theorem mem_letters (c : Nat) : c ∈ letters.cps.toList ↔ 97 ≤ c ∧ c < 123 := by
  rw [letters_is, List.mem_range'_1]
theorem tabs : ∀ c : _root_.Fin 128, (Unicode.isAlpha c.val && !(Unicode.isUpper c.val || Unicode.isTitle c.val)) = decide (97 ≤ c.val ∧ c.val < 123) ∧ (decide (97 ≤ c.val ∧ c.val < 123) = true → Unicode.isLower c.val = true) := by decide +kernel
theorem tab {c : Nat} (h : c < 128) : (Unicode.isAlpha c = true ∧ Unicode.isUpper c = false ∧ Unicode.isTitle c = false) ↔ (97 ≤ c ∧ c < 123) := by
  have t := (tabs ⟨c, h⟩).1
  simp only at t
  constructor
  · rintro ⟨a, b, d⟩
    rw [a, b, d] at t
    exact of_decide_eq_true t.symm
  · intro q
    rw [decide_eq_true q] at t
    simp only [Bool.and_eq_true, Bool.not_eq_true', Bool.or_eq_false_iff] at t
    exact ⟨t.1, t.2.1, t.2.2⟩
theorem tabL {c : Nat} (h : 97 ≤ c ∧ c < 123) : Unicode.isLower c = true := (tabs ⟨c, by omega⟩).2 (decide_eq_true h)
theorem name_is (s : Str) : (Txt.isascii s && (Txt.isalpha s && Txt.islower s)) = (decide (0 < s.length) && s.cps.toList.all fun c => decide (c ∈ letters.cps.toList)) := by
  have e0 : ∀ p : Nat → Bool, s.cps.all p = s.cps.toList.all p := fun p => by rw [Array.all_toList]
  have e1 : ∀ p : Nat → Bool, s.cps.any p = s.cps.toList.any p := fun p => by rw [Array.any_toList]
  unfold Txt.isascii Txt.isalpha Txt.islower
  rw [e0, e0, e1, e1]
  have hl : s.length = s.cps.toList.length := by
    show s.cps.size = _
    rw [Array.length_toList]
  rw [hl]
  generalize s.cps.toList = l
  rw [Bool.eq_iff_iff]
  simp only [Bool.and_eq_true, List.all_eq_true, decide_eq_true_eq, List.any_eq_true, Bool.not_eq_true', List.any_eq_false, Bool.or_eq_true, not_or, mem_letters, gt_iff_lt]
  constructor
  · rintro ⟨a, ⟨n, al⟩, lo, up⟩
    refine ⟨n, fun c hc => ?_⟩
    have u := up c hc
    exact (tab (a c hc)).mp ⟨al c hc, by simpa using u.1, by simpa using u.2⟩
  · rintro ⟨n, al⟩
    refine ⟨fun c hc => by have := al c hc; omega, ⟨n, fun c hc => ?_⟩, ?_, fun c hc => ?_⟩
    · have := al c hc
      exact ((tab (c := c) (by omega)).mpr this).1
    · cases l with
      | nil => simp at n
      | cons c r => exact ⟨c, List.mem_cons_self, tabL (al c List.mem_cons_self)⟩
    · have := al c hc
      have q := (tab (c := c) (by omega)).mpr this
      exact ⟨by simp [q.2.1], by simp [q.2.2]⟩
structure TxtN (mg : Str → Option Value) : Prop where
  int : mg "int" = none
  bool : mg "bool" = none
  str : mg "str" = none
  len : mg "len" = none
  isinstance : mg "isinstance" = none
/-- a def that tells something of a value -/
def spIs (K : PySem.W.Frag) (f : V → Bool) : Sp := fun vs H Q _ => ∃ (v : V) (n : String), vs = [v] ∧ Kd K H v n ∧ ∀ H', Same H H' → Q (.bl (f v)) H'
def wholeV (v : V) : Bool := (isI v || isB v) && !isB v
section
variable {P : Program} {w : World} {K : PySem.W.Frag} {mg : Str → Option Value} {base : Heap}
theorem ok_is_integer {f : Addr} {fd : FuncData} (F : Fun K "is_integer" "is_integer" s_is_integer f fd) (T : TxtN mg) : FnOk P w K mg base CX0 1 f fd ["value"] (spIs K wholeV) := by
  refine F.ok sc_is_integer (fun vs H Q E h => ?_) (fun cdv A outer s H vs Q E hr h => ?_)
  · obtain ⟨v, n, rfl, _⟩ := h
    rfl
  · obtain ⟨v, n, rfl, hk, k⟩ := h
    refine ⟨_, (pss_one (ps_ret (pe_and (pe_callB call_isi (by rfl) T.isinstance (by decide +kernel) (pa_cons (pv 0) (pa_cons (pe_bltn (v := .ty "int") (u := .type "int") (by rfl) T.int (by decide +kernel) rfl) pa_nil))) (pe_one (pe_not (pe_callB call_isi (by rfl) T.isinstance (by decide +kernel) (pa_cons (pv 0) (pa_cons (pe_bltn (v := .ty "bool") (u := .type "bool") (by rfl) T.bool (by decide +kernel) rfl) pa_nil)))))))), ?_⟩
    dsimp only [cxOf]
    walk_at "hgo"
    refine g_isi hk.ty hk.isInt ?_
    walk_at "hgo"
    unfold wholeV at k
    cases e : (isI v || isB v) with
    | false =>
      rw [e] at k
      refine iteF ?_
      exact k H (Same.refl H)
    | true =>
      rw [e] at k
      refine iteT ?_
      walk_at "hgo"
      refine g_isi hk.ty hk.isBool ?_
      walk_at "hgo"
      exact k H (Same.refl H)
theorem ok_is_name {f : Addr} {fd : FuncData} (F : Fun K "is_name" "is_name" s_is_name f fd) (T : TxtN mg) : FnOk P w K mg base CX0 1 f fd ["value"] (spIs K okV) := by
  refine F.ok sc_is_name (fun vs H Q E h => ?_) (fun cdv A outer s H vs Q E hr h => ?_)
  · obtain ⟨v, n, rfl, _⟩ := h
    rfl
  · obtain ⟨v, n, rfl, hk, k⟩ := h
    refine ⟨_, (pss_cons (ps_if (PW.pt (pw_or (pt_not (pt_val (pe_callB call_isi (by rfl) T.isinstance (by decide +kernel) (pa_cons (pv 0) (pa_cons (pe_bltn (v := .ty "str") (u := .type "str") (by rfl) T.str (by decide +kernel) rfl) pa_nil))))) (pw_or1 (pt_cmpR op_gt (pe_callB call_lenS (by rfl) T.len (by decide +kernel) (pa_cons (pv 0) pa_nil)) pe_int (nomark _))))) (pss_one (ps_ret pe_bl)) pss_nil)
      (pss_one (ps_ret (pe_and (pe_bm0 PySem.F.plainAttrs_str PySem.F.slot_str_isascii PySem.F.type_str_isascii mt_isasciiB (pv 0)) (pe_and (pe_bm0 PySem.F.plainAttrs_str PySem.F.slot_str_isalpha PySem.F.type_str_isalpha mt_isalphaB (pv 0)) (pe_and (pe_bm0 PySem.F.plainAttrs_str PySem.F.slot_str_islower PySem.F.type_str_islower mt_islowerB (pv 0)) (pe_one (pe_cmpR op_ne (pv 0) pe_str (nomark _))))))))), ?_⟩
    dsimp only [cxOf]
    walk_at "hgo"
    refine g_isi hk.ty hk.isStr ?_
    walk_at "hgo"
    cases hk with
    | str s hs so =>
      refine g_false rfl ?_
      walk_at "hgo"
      refine g_lenS (small_of (by omega)) ?_
      walk_at "hgo"
      refine ite2 (fun c1 => ?_) (fun c1 => ?_)
      · walk_at "hgo"
        have e : okV (.str s) = false := by
          have z : ¬ s.length < 9 := by
            have := of_decide_eq_true c1
            omega
          show okS s = false
          unfold okS
          rw [decide_eq_false z]
          simp
        rw [e] at k
        exact k H (Same.refl H)
      · walk_at "hgo"
        have z : s.length < 9 := by
          have := of_decide_eq_false (Bool.eq_false_iff.mpr c1)
          omega
        have e : okV (.str s) = (Txt.isascii s && (Txt.isalpha s && (Txt.islower s && !decide (V.str s = V.str (Str.ofString "self"))))) := by
          have n := name_is s
          have q : decide (V.str s = V.str (Str.ofString "self")) = decide (s = Str.ofString "self") := by
            by_cases w : s = Str.ofString "self"
            · rw [decide_eq_true w, decide_eq_true (congrArg V.str w)]
            · rw [decide_eq_false w, decide_eq_false (fun y => w (V.str.inj y))]
          rw [q]
          have r : (Txt.isascii s && (Txt.isalpha s && (Txt.islower s && !decide (s = Str.ofString "self")))) = ((Txt.isascii s && (Txt.isalpha s && Txt.islower s)) && !decide (s = Str.ofString "self")) := by
            cases Txt.isascii s <;> cases Txt.isalpha s <;> cases Txt.islower s <;> simp
          rw [r, n]
          show okS s = _
          unfold okS
          rw [decide_eq_true z]
          cases decide (0 < s.length) <;> cases decide (s = Str.ofString "self") <;> simp
        rw [e] at k
        cases e1 : Txt.isascii s with
        | false =>
          rw [e1] at k
          exact iteF (k H (Same.refl H))
        | true =>
          rw [e1] at k
          refine iteT ?_
          walk_at "hgo"
          cases e2 : Txt.isalpha s with
          | false =>
            rw [e2] at k
            exact iteF (k H (Same.refl H))
          | true =>
            rw [e2] at k
            refine iteT ?_
            walk_at "hgo"
            cases e3 : Txt.islower s with
            | false =>
              rw [e3] at k
              exact iteF (k H (Same.refl H))
            | true =>
              rw [e3] at k
              refine iteT ?_
              walk_at "hgo"
              exact k H (Same.refl H)
    | _ =>
      refine g_true rfl ?_
      walk_at "hgo"
      exact k H (Same.refl H)
end

theorem g_lockE {t : TE} {σ : L2.St} {H : Hp} {Q : VK} (d : Addr) (u : HO) (h : H d = some u) (mu : Mut (some u)) (q : ∀ od, t σ (upd H d (.frz od u)) fun v H' => H' d = some (.frz od u) ∧ Q v (upd H' d u)) : tLockE t σ H Q := ⟨d, u, h, mu, q⟩
theorem g_keys {td : TE} {σ : L2.St} {H : Hp} {R : It → Hp → Prop} (h : td σ H fun x H1 => ∃ d o kvs, x = .ref d ∧ H1 d = some (.frz o (.dK kvs)) ∧ R (Itk d o kvs) H1) (tm : ∀ {Q Q' : VK}, (∀ v H', Q v H' → Q' v H') → td σ H Q → td σ H Q') : iKeys td σ H R :=
  tm (fun x H1 z => by
    obtain ⟨d, o, kvs, e, h1, r⟩ := z
    exact ⟨d, o, e, .inl ⟨kvs, h1, r⟩⟩) h
theorem g_keysV {i : Nat} {σ : L2.St} {H : Hp} {R : It → Hp → Prop} {d : Addr} {o : Obj} {kvs : List (Key × V)} (e : σ[i]? = some (some (.ref d))) (h : H d = some (.frz o (.dK kvs))) (r : R (Itk d o kvs) H) : iKeys (tVar i) σ H R :=
  ⟨.ref d, e, d, o, rfl, .inl ⟨kvs, h, r⟩⟩
theorem g_dget {td ty : TE} {σ : L2.St} {H : Hp} {Q : VK} (h : td σ H fun x H1 => ty σ H1 fun y H2 => ∃ a v, x = .ref a ∧ DGet H2 a y (some v) ∧ Q v H2) : tDGet td ty σ H Q := h
theorem g_dget2 {td ty tx : TE} {σ : L2.St} {H : Hp} {Q : VK} (h : td σ H fun x H1 => ∃ a, x = .ref a ∧ IsD H1 a ∧ ty σ H1 fun y H2 => tx σ H2 fun z H3 => ∃ o, DGet H3 a y o ∧ Q (o.getD z) H3) : tDGet2 td ty tx σ H Q := h
theorem g_din {ty td : TE} {σ : L2.St} {H : Hp} {Q : VK} (h : ty σ H fun y H1 => td σ H1 fun x H2 => ∃ a o, x = .ref a ∧ DGet H2 a y o ∧ Q (.bl o.isSome) H2) : tDIn ty td σ H Q := h
theorem g_dput {td ty tv : TE} {D : Ends} {σ : L2.St} {H : Hp} (h : tv σ H fun v H1 => td σ H1 fun x H2 => ty σ H2 fun y H3 => ∃ a H4, x = .ref a ∧ DPut H3 a y v H4 ∧ D.nx σ H4) : sDPut td ty tv D σ H := h
theorem rd_get {H : Hp} {d : Addr} {l : IL} (h : Rd H d (.dK (DI l))) {k : Str} : DGet H d (.str k) ((l.lookup k).map V.int) := .inl ⟨DI l, Sum.inr k, h, rfl, (DI_val l k).symm⟩
theorem rd_at {H : Hp} {d : Addr} {l : IL} (h : Rd H d (.dK (DI l))) {k : Str} (m : k ∈ ks l) : DGet H d (.str k) (some (.int (vl l k))) := by
  have z := rd_get (k := k) h
  rw [look_some m] at z
  exact z
theorem get0 (l : IL) (k : Str) : ((l.lookup k).map V.int).getD (.int 0) = .int (vl l k) := by
  unfold vl
  cases l.lookup k <;> rfl
theorem di_at {l : IL} {i : Nat} {k : Key} {v : V} (h : (DI l)[i]? = some (k, v)) : ∃ x j, l[i]? = some (x, j) ∧ k = Sum.inr x ∧ v = V.int j ∧ x ∈ ks l := by
  unfold DI at h
  rw [List.getElem?_map] at h
  cases e : l[i]? with
  | none => rw [e] at h; cases h
  | some p =>
    rw [e] at h
    cases h
    exact ⟨p.1, p.2, rfl, rfl, rfl, List.mem_map_of_mem (List.mem_of_getElem? e)⟩
/-- all but what stands at d -/
def Oth (d : Addr) (H H' : Hp) : Prop := ∀ a o, a ≠ d → H a = some o → H' a = some o
theorem Oth.same {d : Addr} {H H1 H2 : Hp} (a : Oth d H H1) (s : Same H1 H2) : Oth d H H2 := fun x o n h => s x o (a x o n h)
theorem oth_upd {d : Addr} {H : Hp} {u : HO} : Oth d H (upd H d u) := fun a o n h => by rw [upd_ne n]; exact h
theorem Oth.at {d : Addr} {H H' : Hp} {u : HO} (a : Oth d H H') (n : H d = none) : Same H H' := fun x o h => a x o (fun e => by rw [e, n] at h; cases h) h
theorem Oth.back {d : Addr} {H H' : Hp} {u : HO} (a : Oth d H H') (h : H d = some u) : Same H (upd H' d u) := fun x o e => by
  by_cases z : x = d
  · rw [z, upd_same]
    rw [z, h] at e
    exact e
  · rw [upd_ne z]
    exact a x o z e
theorem Oth.put {d p : Addr} {H H' : Hp} {u : HO} (a : Oth d H H') (n : H p = none) : Oth d H (upd H' p u) := fun x o z e => by
  rw [upd_ne (fun w => by rw [w, n] at e; cases e)]
  exact a x o z e
theorem okS_len {s : Str} (h : okS s = true) : s.length < 9 := by
  unfold okS at h
  simp only [Bool.and_eq_true, decide_eq_true_eq] at h
  exact h.1.1.2
theorem okS_strOk {s : Str} (h : okS s = true) : PyData.strOk s = true := by
  unfold okS at h
  simp only [Bool.and_eq_true, List.all_eq_true, decide_eq_true_eq] at h
  unfold PyData.strOk
  rw [← Array.all_toList, List.all_eq_true]
  intro c hc
  have := (mem_letters c).mp (h.2 c hc)
  exact decide_eq_true (by omega)
theorem kd_name {K : PySem.W.Frag} {H : Hp} {s : Str} (h : okS s = true) : Kd K H (.str s) "str" := .str s (by have := okS_len h; omega) (okS_strOk h)
def okL (l : IL) : Prop := ∀ k ∈ ks l, okS k = true
structure TxtV (mg : Str → Option Value) : Prop where
  int : mg "int" = none
  bool : mg "bool" = none
  str : mg "str" = none
  len : mg "len" = none
  isinstance : mg "isinstance" = none
  dict : mg "dict" = none
  all : mg "all" = none
  sum : mg "sum" = none
  sorted : mg "sorted" = none
  set : mg "set" = none
  list : mg "list" = none
  tuple : mg "tuple" = none
  range : mg "range" = none
  abs : mg "abs" = none
  repr : mg "repr" = none
theorem TxtV.n {mg : Str → Option Value} (T : TxtV mg) : TxtN mg := ⟨T.int, T.bool, T.str, T.len, T.isinstance⟩
theorem all_true (n : Nat) : (List.replicate n true).all id = true := by
  induction n with
  | zero => rfl
  | succ n ih => rw [List.replicate_succ, List.all_cons, ih]; rfl
def spGives : Sp := fun vs H Q _ => ∃ d l, vs = [.ref d] ∧ H d = some (.dK (DI l)) ∧ okL l ∧ l.length ≤ 100 ∧ ∀ H', Same H H' → Q (.bl true) H'
section
variable {P : Program} {w : World} {K : PySem.W.Frag} {mg : Str → Option Value} {base : Heap}
variable {f_is_name f_is_integer : Addr} {fd_is_name fd_is_integer : FuncData}
theorem ok_gives_integers {f : Addr} {fd : FuncData} (F : Fun K "gives_integers" "gives_integers" s_gives_integers f fd) (T : TxtV mg)
    (F_is_name : Fun K "is_name" "is_name" s_is_name f_is_name fd_is_name) (b_is_name : Binds K fd_is_name ["value"] []) (g_is_name : mg "is_name" = some (.ref f_is_name))
    (F_is_integer : Fun K "is_integer" "is_integer" s_is_integer f_is_integer fd_is_integer) (b_is_integer : Binds K fd_is_integer ["value"] []) (g_is_integer : mg "is_integer" = some (.ref f_is_integer)) :
    FnOk P w K mg base CX0 2 f fd ["value"] spGives := by
  have G_is_name : FnOk P w K mg base CX0 1 f_is_name fd_is_name ["value"] (spIs K okV) := ok_is_name F_is_name T.n
  have G_is_integer : FnOk P w K mg base CX0 1 f_is_integer fd_is_integer ["value"] (spIs K wholeV) := ok_is_integer F_is_integer T.n
  refine F.ok sc_gives_integers (fun vs H Q E h => ?_) (fun cdv A outer s H vs Q E hr h => ?_)
  · obtain ⟨d, l, rfl, _⟩ := h
    rfl
  · obtain ⟨d, l, rfl, hd, ok, few, k⟩ := h
    have hu := hu_of hr
    refine ⟨_, (pss_cons (ps_if (pt_not (pt_val (pe_callB call_isi (by rfl) T.isinstance (by decide +kernel) (pa_cons (pv 0) (pa_cons (pe_bltn (v := .ty "dict") (u := .type "dict") (by rfl) T.dict (by decide +kernel) rfl) pa_nil))))) (pss_one (ps_ret pe_bl)) pss_nil)
      (pss_one (ps_ret (pe_callB (cr_all rfl) (by rfl) T.all (by decide +kernel) (pa_cons (pe_lock (pe_lc (own := [("name", 1)]) (g := gName 1) rfl sc_gives_integers.nd (pi_keys (pv 0)) (blkOk_by (own := [("name", 1)]) (N := N_gives_integers) (sc := defScope s_gives_integers) (by decide +kernel)) (fun _ _ _ _ _ => pg_name (i := 1) sc_gives_integers.nd rfl (Or.inl rfl)) (fun _ _ _ _ _ => pts_nil) (fun _ _ _ _ _ => (pe_and (pe_call G_is_name (hr.mono (by decide)) (by rfl) g_is_name F_is_name.kp b_is_name .nil pass0 (pa_cons (pv 1) pa_nil)) (pe_one (pe_call G_is_integer (hr.mono (by decide)) (by rfl) g_is_integer F_is_integer.kp b_is_integer .nil pass0 (pa_cons (pe_dget hu (pv 0) (pv 1) (fun _ _ => rfl)) pa_nil))))))) pa_nil))))), ?_⟩
    try dsimp only [cxOf]
    walk_at "hgo"
    refine g_isi (Kd.dK hd).ty (b := true) (by decide +kernel) ?_
    walk_at "hgo"
    refine g_lockE d _ hd trivial fun od => ?_
    walk_at "hgo"
    refine g_keysV rfl upd_same fun D hD => ?_
    have ndD : D ≠ d := fun e => by rw [e, upd_same] at hD; cases hD
    rw [upd_ne ndD] at hD
    refine lc_it walk_keys (fun i H' => H' d = some (.frz od (.dK (DI l))) ∧ H' D = some (.lst ((List.replicate i true).map V.bl)) ∧ Oth d H H') ?_ (fun _ _ _ z => z.1) ?_ ?_
    · refine ⟨?_, upd_same, ?_⟩
      · rw [upd_ne ndD.symm]; exact upd_same
      · exact (oth_upd (H := H)).put hD
    · rintro i x H1 H2 hi ⟨p1, p2, p3⟩ ⟨rfl, ky, v, hkv, rfl⟩
      obtain ⟨x, j, hx, rfl, rfl, mx⟩ := di_at hkv
      have hkok := ok x mx
      walk_at "hgo"
      refine ⟨rfl, ?_⟩
      walk_at "hgo"
      refine ⟨.str x, "str", rfl, kd_name hkok, ?_⟩
      intro H3 s3
      refine ⟨true, by show V.bl (okS x) = V.bl true; rw [hkok], ?_⟩
      walk_at "hgo"
      refine g_dget ?_
      walk_at "hgo"
      have q1 := s3 _ _ p1
      refine ⟨d, _, rfl, rd_at (.inr ⟨od, q1⟩) mx, ?_⟩
      walk_at "hgo"
      refine ⟨.int _, "int", rfl, .int _, ?_⟩
      intro H4 s4
      have q2 := s4 _ _ (s3 _ _ p2)
      refine ⟨_, q2, ?_, ?_, upd_same.trans ?_, ?_⟩
      · rw [List.length_map, List.length_replicate]
        rw [DI_len] at hi
        exact Nat.lt_of_lt_of_le (show i < 1000 by omega) (by decide)
      · rw [upd_ne ndD.symm]
        exact s4 _ _ q1
      · rw [List.replicate_succ', List.map_append]; rfl
      · exact ((p3.same s3).same s4).put hD
    · rintro H1 ⟨p1, p2, p3⟩
      refine ⟨p1, ?_⟩
      have sm := p3.back hd
      have e : upd H1 d (.dK (DI l)) D = some (.lst ((List.replicate (DI l).length true).map V.bl)) := by rw [upd_ne ndD]; exact p2
      refine g_nil ?_
      refine ⟨D, _, rfl, SqL.of e, ?_⟩
      rw [all_true]
      exact k _ sm
end

def DCF (J : It) (g : TG) (tt : TT) (tk tv : TE) (vs : List Nat) (σ : L2.St) (H1 : Hp) (D : Addr) (Q : VK) : Prop := ∃ W : Nat → Nat → Hp → Prop, (∃ m, W 0 m (upd H1 D (.dK []))) ∧ ∀ i m H, W i m H →
  (J.stop i H ∧ Q (.ref D) H) ∨ (J.go i H ∧ ∃ Nx : Hp → Prop, (∀ H', Nx H' → ∃ m', m' < m ∧ W (i + 1) m' H') ∧ ∀ x H', J.yld i H x H' → g x (wipe σ vs) H' fun σ2 H2 => wipe σ2 vs = wipe σ vs ∧ tt σ2 H2 fun b H3 =>
    if b = true then tk σ2 H3 fun y H4 => tv σ2 H4 fun z H5 => ∃ kvs k, y = kV k ∧ H5 D = some (.dK kvs) ∧ kvs.length < sizeLine ∧ Nx (upd H5 D (.dK (putK kvs k z))) else Nx H3)
theorem g_dc {wi : TI} {g : TG} {tt : TT} {tk tv : TE} {vs : List Nat} {σ : L2.St} {H : Hp} {Q : VK} (h : wi σ H fun J H1 => ∀ D, H1 D = none → DCF J g tt tk tv vs σ H1 D Q) : tDc wi g tt tk tv vs σ H Q := h
theorem g_lockS {t : TS} {σ : L2.St} {H : Hp} {D : Ends} (d : Addr) (u : HO) (h : H d = some u) (mu : Mut (some u))
    (q : ∀ od, t ⟨fun σ' H' => H' d = some (.frz od u) ∧ D.nx σ' (upd H' d u), fun v H' => H' d = some (.frz od u) ∧ D.rt v (upd H' d u), fun σ' H' => H' d = some (.frz od u) ∧ D.bk σ' (upd H' d u), fun σ' H' => H' d = some (.frz od u) ∧ D.ct σ' (upd H' d u)⟩ σ (upd H d (.frz od u))) : tLock t D σ H := ⟨d, u, h, mu, q⟩
theorem putI_new {l : IL} {k : Str} {i : Int} (h : k ∉ ks l) : putI l k i = l ++ [(k, i)] := by unfold putI; rw [if_neg h]
theorem mk_snoc (ys : List Str) (y : Str) (f : Str → Int) : mk (ys ++ [y]) f = mk ys f ++ (if f y ≠ 0 then [(y, f y)] else []) := by
  unfold mk
  rw [List.filter_append, List.map_append]
  congr 1
  by_cases h : f y = 0
  · rw [if_neg (by simp [h]), List.filter_cons_of_neg (by simp [h])]; rfl
  · rw [if_pos h, List.filter_cons_of_pos (by simp [h])]; rfl
theorem mk_len (ys : List Str) (f : Str → Int) : (mk ys f).length ≤ ys.length := by
  unfold mk
  rw [List.length_map]
  exact List.length_filter_le _ _
theorem take_snoc {ys : List Str} {i : Nat} {y : Str} (h : ys[i]? = some y) : ys.take (i + 1) = ys.take i ++ [y] := by
  rw [List.take_add_one, h]; rfl
theorem not_taken {ys : List Str} {i : Nat} {y : Str} (n : ys.Nodup) (h : ys[i]? = some y) : y ∉ ys.take i := by
  intro m
  obtain ⟨j, hj, e⟩ := List.mem_take_iff_getElem.mp m
  obtain ⟨hi, e2⟩ := List.getElem?_eq_some_iff.mp h
  have hj' : j < i := by omega
  have := (List.getElem_inj n).mp (e.trans e2.symm)
  omega
theorem mk_put {ys : List Str} {i : Nat} {y : Str} {f : Str → Int} (n : ys.Nodup) (h : ys[i]? = some y) (hf : f y ≠ 0) : putI (mk (ys.take i) f) y (f y) = mk (ys.take (i + 1)) f := by
  have q : y ∉ ks (mk (ys.take i) f) := by
    rw [ks_mk, List.mem_filter]
    exact fun z => not_taken n h z.1
  rw [putI_new q, take_snoc h, mk_snoc, if_pos hf]
theorem mk_skip {ys : List Str} {i : Nat} {y : Str} {f : Str → Int} (h : ys[i]? = some y) (hf : f y = 0) : mk (ys.take (i + 1)) f = mk (ys.take i) f := by
  rw [take_snoc h, mk_snoc, if_neg (fun z => z hf), List.append_nil]
theorem str_at {ys : List Str} {i : Nat} {x : V} (h : (ys.map V.str)[i]? = some x) : ∃ y, ys[i]? = some y ∧ x = .str y := by
  rw [List.getElem?_map] at h
  cases e : ys[i]? with
  | none => rw [e] at h; cases h
  | some y => rw [e] at h; cases h; exact ⟨y, rfl, rfl⟩
/-- what a new canonical dict tells of l -/
structure Kept (l r : IL) : Prop where
  can : Can r
  vl : ∀ k, vl r k = vl l k
  sub : ∀ k ∈ ks r, k ∈ ks l
  len : r.length ≤ l.length
def spKept : Sp := fun vs H Q _ => ∃ d l, vs = [.ref d] ∧ H d = some (.dK (DI l)) ∧ (ks l).Nodup ∧ l.length < 64 ∧ ∀ p r H', H p = none → Same H H' → H' p = some (.dK (DI r)) → Kept l r → Q (.ref p) H'
section
variable {P : Program} {w : World} {K : PySem.W.Frag} {mg : Str → Option Value} {base : Heap}
theorem ok_kept_numbers {f : Addr} {fd : FuncData} (F : Fun K "kept_numbers" "kept_numbers" s_kept_numbers f fd) (T : TxtV mg) : FnOk P w K mg base CX0 1 f fd ["numbers"] spKept := by
  refine F.ok sc_kept_numbers (fun vs H Q E h => ?_) (fun cdv A outer s H vs Q E hr h => ?_)
  · obtain ⟨d, l, rfl, _⟩ := h
    rfl
  · obtain ⟨d, l, rfl, hd, nd, few, k⟩ := h
    have hu := hu_of hr
    refine ⟨_, (pss_one (ps_ret (pe_dc (own := [("name", 1)]) (g := gName 1) rfl sc_kept_numbers.nd (pi_list (pe_callB (call_sortedD rfl) (by rfl) T.sorted (by decide +kernel) (pa_cons (pv 0) pa_nil))) (blkOk_by (own := [("name", 1)]) (N := N_kept_numbers) (sc := defScope s_kept_numbers) (by decide +kernel)) (fun _ _ _ _ _ => pg_name (i := 1) sc_kept_numbers.nd rfl (Or.inl rfl)) (fun _ _ _ _ _ => (pts_one (pt_cmpR op_ne (pe_dget hu (pv 0) (pv 1) (fun _ _ => rfl)) pe_int (nomark _)))) (fun _ _ _ _ _ => (pv 1)) (fun _ _ _ _ _ => (pe_dget hu (pv 0) (pv 1) (fun _ _ => rfl)))))), ?_⟩
    try dsimp only [cxOf]
    walk_at "hgo"
    refine g_dc ?_
    walk_at "hgo"
    refine ⟨d, DI l, ks l, rfl, .inl hd, DI_keys l, by rw [ks_len]; exact few, ?_⟩
    intro ys p perm srt hp
    refine g_atL (SqL.of (upd_same (o := .lst (ys.map V.str)))) fun D hD => ?_
    have ndp : D ≠ p := fun e => by rw [e, upd_same] at hD; cases hD
    rw [upd_ne ndp] at hD
    have ny : ys.Nodup := perm.nodup_iff.mpr nd
    have ly : ys.length = l.length := by rw [perm.length_eq, ks_len]
    refine dc_it (walk_list (K := K) (xs := ys.map V.str)) (fun i H' => H' p = some (.lst (ys.map V.str)) ∧ H' D = some (.dK (DI (mk (ys.take i) (vl l)))) ∧ Same H H') ?_ (fun _ _ _ z => SqL.of z.1) ?_ ?_
    · refine ⟨?_, upd_same, ?_⟩
      · rw [upd_ne ndp.symm]; exact upd_same
      · exact same_trans (same_new hp) (same_new (by rw [upd_ne ndp]; exact hD))
    · rintro i x H1 H2 hi ⟨p1, p2, p3⟩ ⟨rfl, hx⟩
      obtain ⟨y, hy, rfl⟩ := str_at hx
      have my : y ∈ ks l := perm.mem_iff.mp (List.mem_of_getElem? hy)
      walk_at "hgo"
      refine ⟨rfl, ?_⟩
      walk_at "hgo"
      have q1 := p3 _ _ hd
      refine g_dget ?_
      walk_at "hgo"
      refine ⟨d, _, rfl, rd_at (.inl q1) my, ?_⟩
      walk_at "hgo"
      by_cases z : vl l y = 0
      · refine g_false (by simp [z]) ?_
        refine ⟨p1, ?_, p3⟩
        rw [mk_skip hy z]
        exact p2
      · refine g_true (by simp [z]) ?_
        walk_at "hgo"
        refine g_dget ?_
        walk_at "hgo"
        refine ⟨d, _, rfl, rd_at (.inl q1) my, ?_⟩
        refine ⟨_, Sum.inr y, rfl, p2, ?_, ?_, ?_, ?_⟩
        · have := mk_len (ys.take i) (vl l)
          have l2 : (ys.take i).length ≤ ys.length := by rw [List.length_take]; omega
          rw [DI_len]
          exact Nat.lt_of_lt_of_le (show (mk (ys.take i) (vl l)).length < 1000 by omega) (by decide)
        · rw [upd_ne ndp.symm]; exact p1
        · rw [upd_same, DI_put, mk_put ny hy z]
        · intro a o e
          rw [upd_ne (fun w => by rw [w, hD] at e; cases e)]
          exact p3 _ _ e
    · rintro H1 ⟨p1, p2, p3⟩
      rw [List.length_map, List.take_length] at p2
      have cn := can_mk (f := vl l) (sorted_pw srt ny)
      refine k D _ H1 hD p3 p2 ⟨cn, fun x => ?_, fun x hx => ?_, ?_⟩
      · rw [vl_mk ny]
        split
        · rfl
        · rename_i q
          exact (vl_none fun z => q (perm.mem_iff.mpr z)).symm
      · rw [ks_mk, List.mem_filter] at hx
        exact perm.mem_iff.mp hx.1
      · have := mk_len ys (vl l)
        omega
end
def upTo (l m : IL) (t : Int) (i : Nat) (k : Str) : Int := vl l k + (if k ∈ (ks m).take i then vl m k * t else 0)
structure Plus (l m : IL) (t : Int) (r : IL) (i : Nat) : Prop where
  nd : (ks r).Nodup
  ok : okL r
  len : r.length ≤ l.length + i
  vl : ∀ k, vl r k = upTo l m t i k
/-- numbers below 2 to b -/
def Bd (b : Nat) (l : IL) : Prop := ∀ k, (vl l k).natAbs < 2 ^ b
def spPlus : Sp := fun vs H Q _ => ∃ a b l m t, vs = [.ref a, .ref b, .int t] ∧ H a = some (.dK (DI l)) ∧ H b = some (.dK (DI m)) ∧ (ks l).Nodup ∧ (ks m).Nodup ∧ okL l ∧ okL m ∧ l.length ≤ 1000 ∧ m.length ≤ 1000 ∧ Bd 1000 m ∧ t.natAbs < 2 ^ 1000 ∧
  ∀ p r H', H p = none → Same H H' → H' p = some (.dK (DI r)) → (ks r).Nodup → okL r → r.length ≤ l.length + m.length → (∀ k, vl r k = vl l k + vl m k * t) → Q (.ref p) H'
theorem plus_put {l m r : IL} {t : Int} {i : Nat} {y : Str} (h : Plus l m t r i) (nm : (ks m).Nodup) (om : okL m) (hy : (ks m)[i]? = some y) : Plus l m t (putI r y (vl r y + vl m y * t)) (i + 1) := by
  refine ⟨ks_put_nodup h.nd, fun k hk => ?_, ?_, fun k => ?_⟩
  · rcases ks_put_mem.mp hk with z | z
    · exact h.ok k z
    · rw [z]; exact om y (List.mem_of_getElem? hy)
  · have a := put_len (l := r) (k := y) (i := vl r y + vl m y * t)
    have b := h.len
    omega
  · rw [vl_put]
    unfold upTo
    have tk : (ks m).take (i + 1) = (ks m).take i ++ [y] := by rw [List.take_add_one, hy]; rfl
    have nt : y ∉ (ks m).take i := not_taken nm hy
    by_cases e : k = y
    · rw [if_pos e, e, h.vl y]
      unfold upTo
      rw [if_neg nt, tk, if_pos (List.mem_append_right _ (List.mem_singleton_self y))]
      omega
    · rw [if_neg e, h.vl k]
      unfold upTo
      rw [tk]
      have : (k ∈ (ks m).take i ++ [y]) ↔ k ∈ (ks m).take i := by
        rw [List.mem_append, List.mem_singleton]
        exact ⟨fun z => z.elim id fun w => absurd w e, .inl⟩
      by_cases z : k ∈ (ks m).take i
      · rw [if_pos z, if_pos (this.mpr z)]
      · rw [if_neg z, if_neg (fun w => z (this.mp w))]
section
variable {P : Program} {w : World} {K : PySem.W.Frag} {mg : Str → Option Value} {base : Heap}
theorem ok_plus {f : Addr} {fd : FuncData} (F : Fun K "plus" "plus" s_plus f fd) (T : TxtV mg) : FnOk P w K mg base CX0 1 f fd ["one", "other", "times"] spPlus := by
  refine F.ok sc_plus (fun vs H Q E h => ?_) (fun cdv A outer s H vs Q E hr h => ?_)
  · obtain ⟨a, b, l, m, t, rfl, _⟩ := h
    rfl
  · obtain ⟨a, b, l, m, t, rfl, ha, hb, nl, nm, ol, om, fl, fm, bm, bt, k⟩ := h
    have hu := hu_of hr
    refine ⟨_, (pss_cons (ps_set (i := 3) sc_plus.nd rfl (Or.inl rfl) (pe_callTy call_dictD (by rfl) T.dict (by decide +kernel) (pa_cons (pv 0) pa_nil)))
      (pss_cons (ps_lock (ps_for PassesOwn.never rfl (pi_keys (pv 1)) (pg_name (i := 4) sc_plus.nd rfl (Or.inl rfl)) (pss_one (ps_dput hu (pv 3) (pv 4) (pe_op op_add (pe_dget2 hu (pv 3) (pv 4) pe_int ⟨rfl, rfl, rfl, rfl⟩) (pe_op op_mulW (pe_dget hu (pv 1) (pv 4) (fun _ _ => rfl)) (pv 2))) rfl))))
      (pss_one (ps_ret (pv 3))))), ?_⟩
    try dsimp only [cxOf]
    walk_at "hline"
    refine ⟨a, DI l, rfl, .inl ha, ?_⟩
    intro p hp
    walk_at "hx"
    have npb : b ≠ p := ne_of_none hb hp
    have hb1 : upd H p (.dK (DI l)) b = some (.dK (DI m)) := by rw [upd_ne npb]; exact hb
    refine g_seq ?_
    refine g_lockS b _ hb1 trivial fun od => ?_
    walk_at "hx"
    refine g_keysV rfl upd_same ?_
    refine for_it walk_keys (fun i σ' H' => (∃ y, σ' = [some (.ref a), some (.ref b), some (.int t), some (.ref p), y]) ∧ H' b = some (.frz od (.dK (DI m))) ∧ (∃ r, H' p = some (.dK (DI r)) ∧ Plus l m t r i) ∧ Oth b H H') ?_ (fun _ _ _ _ z => z.2.1) ?_ ?_
    · refine ⟨⟨none, rfl⟩, upd_same, ⟨l, ?_, nl, ol, by omega, fun k => by unfold upTo; simp⟩, ?_⟩
      · rw [upd_ne npb.symm]; exact upd_same
      · intro x o n e
        rw [upd_ne n, upd_ne (ne_of_none e hp)]
        exact e
    · rintro i x σ' H1 H2 hi ⟨⟨y0, rfl⟩, p1, ⟨r, p2, pl⟩, p3⟩ ⟨rfl, ky, v, hkv, rfl⟩
      obtain ⟨y, j, hx, rfl, rfl, my⟩ := di_at hkv
      have hy : (ks m)[i]? = some y := by unfold ks; rw [List.getElem?_map, hx]; rfl
      have hi2 : i < m.length := by rw [DI_len] at hi; exact hi
      walk_at "hgo"
      refine g_dput ?_
      walk_at "hgo"
      refine g_dget2 ?_
      walk_at "hgo"
      refine ⟨p, rfl, .inl ⟨_, .inl p2⟩, ?_⟩
      walk_at "hgo"
      refine ⟨_, rd_get (.inl p2), ?_⟩
      rw [get0]
      walk_at "hgo"
      refine g_dget ?_
      walk_at "hgo"
      refine ⟨b, _, rfl, rd_at (.inr ⟨od, p1⟩) my, ?_⟩
      walk_at "hx"
      refine g_I (wide_mul (bm y) bt (by decide) (by decide) (by decide)) ?_
      walk_at "hgo"
      refine ⟨p, _, rfl, .inl ⟨DI r, Sum.inr y, p2, rfl, ?_, rfl⟩, ?_⟩
      · rw [DI_len]
        have := pl.len
        exact Nat.lt_of_lt_of_le (show r.length < 10000 by omega) (by decide)
      · walk_at "hgo"
        refine ⟨⟨_, rfl⟩, ?_, ⟨_, ?_, plus_put pl nm om hy⟩, ?_⟩
        · rw [upd_ne npb]; exact p1
        · rw [upd_same, DI_put]
        · exact p3.put hp
    · rintro σ' H1 ⟨⟨y0, rfl⟩, p1, ⟨r, p2, pl⟩, p3⟩
      refine ⟨p1, ?_⟩
      walk_at "hgo"
      have e : upd H1 b (.dK (DI m)) p = some (.dK (DI r)) := by rw [upd_ne npb.symm]; exact p2
      refine k p r _ hp (p3.back hb) e pl.nd pl.ok (by have := pl.len; rw [DI_len] at this; exact this) fun x => ?_
      rw [pl.vl]
      unfold upTo
      rw [DI_len, ← ks_len, List.take_length]
      by_cases z : x ∈ ks m
      · rw [if_pos z]
      · rw [if_neg z, vl_none z]; simp
end

theorem ps_never {X : Cx} {st : Stmt} : PS X st (fun _ _ _ => False) := ⟨fun pins s σ H D I h => h.elim⟩
def gTwo {α : Type} : List α → List α → List α
  | [u], [v] => [u, v]
  | _, _ => []
structure VF (K : PySem.W.Frag) (mg : Str → Option Value) where
  C : Addr
  pOf : Addr
  pNm : Addr
  mc : Value
  fo : Option Value
  ro : Option Value
  fIN : Addr
  dIN : FuncData
  fII : Addr
  dII : FuncData
  fGI : Addr
  dGI : FuncData
  fKN : Addr
  dKN : FuncData
  fPL : Addr
  dPL : FuncData
  fLP : Addr
  dLP : FuncData
  fLD : Addr
  dLD : FuncData
  fLK : Addr
  dLK : FuncData
  fLG : Addr
  dLG : FuncData
  fLW : Addr
  dLW : FuncData
  fLB : Addr
  dLB : FuncData
  fLS : Addr
  dLS : FuncData
  fLT : Addr
  dLT : FuncData
  fI : Addr
  dI : FuncData
  fOF : Addr
  dOF : FuncData
  fNM : Addr
  dNM : FuncData
  fGT : Addr
  dGT : FuncData
  fLN : Addr
  dLN : FuncData
  fBL : Addr
  dBL : FuncData
  fAD : Addr
  dAD : FuncData
  fSB : Addr
  dSB : FuncData
  fNG : Addr
  dNG : FuncData
  fML : Addr
  dML : FuncData
  fDT : Addr
  dDT : FuncData
  fEQ : Addr
  dEQ : FuncData
  t : TxtV mg
  F_is_name : Fun K "is_name" "is_name" s_is_name fIN dIN
  b_is_name : Binds K dIN ["value"] []
  g_is_name : mg "is_name" = some (.ref fIN)
  F_is_integer : Fun K "is_integer" "is_integer" s_is_integer fII dII
  b_is_integer : Binds K dII ["value"] []
  g_is_integer : mg "is_integer" = some (.ref fII)
  F_gives_integers : Fun K "gives_integers" "gives_integers" s_gives_integers fGI dGI
  b_gives_integers : Binds K dGI ["value"] []
  g_gives_integers : mg "gives_integers" = some (.ref fGI)
  F_kept_numbers : Fun K "kept_numbers" "kept_numbers" s_kept_numbers fKN dKN
  b_kept_numbers : Binds K dKN ["numbers"] []
  g_kept_numbers : mg "kept_numbers" = some (.ref fKN)
  F_plus : Fun K "plus" "plus" s_plus fPL dPL
  b_plus : Binds K dPL ["one", "other", "times"] []
  g_plus : mg "plus" = some (.ref fPL)
  F_law_pen : Fun K "_law_pen" "_law_pen" s_law_pen fLP dLP
  b_law_pen : Binds K dLP ["_law_script"] []
  g_law_pen : mg "_law_pen" = some (.ref fLP)
  F_law_draw : Fun K "_law_draw" "_law_draw" s_law_draw fLD dLD
  b_law_draw : Binds K dLD ["_law_pen_here", "_law_many"] []
  g_law_draw : mg "_law_draw" = some (.ref fLD)
  F_law_pick : Fun K "_law_pick" "_law_pick" s_law_pick fLK dLK
  b_law_pick : Binds K dLK ["_law_pen_here", "_law_some"] []
  g_law_pick : mg "_law_pick" = some (.ref fLK)
  F_law_great : Fun K "_law_great" "_law_great" s_law_great fLG dLG
  b_law_great : Binds K dLG ["_law_pen_here", "_law_most"] []
  g_law_great : mg "_law_great" = some (.ref fLG)
  F_law_whole : Fun K "_law_whole" "_law_whole" s_law_whole fLW dLW
  b_law_whole : Binds K dLW ["_law_pen_here"] []
  g_law_whole : mg "_law_whole" = some (.ref fLW)
  F_law_box : Fun K "_law_box" "_law_box" s_law_box fLB dLB
  b_law_box : Binds K dLB ["_law_pen_here", "_law_mate"] []
  g_law_box : mg "_law_box" = some (.ref fLB)
  F_law_sum : Fun K "_law_sum" "_law_sum" s_law_sum fLS dLS
  b_law_sum : Binds K dLS ["_law_box_here", "_law_often", "_law_mate", "_law_times"] []
  g_law_sum : mg "_law_sum" = some (.ref fLS)
  F_law_told : Fun K "_law_told" "_law_told" s_law_told fLT dLT
  b_law_told : Binds K dLT ["_law_made"] []
  g_law_told : mg "_law_told" = some (.ref fLT)
  F_init : Fun K "__init__" "Vector.__init__" s_Vector___init__ fI dI
  F_of : Fun K "of" "Vector.of" s_Vector_of fOF dOF
  b_of : Binds K dOF ["cls", "numbers"] []
  F_names : Fun K "names" "Vector.names" s_Vector_names fNM dNM
  b_names : Binds K dNM ["self"] []
  F_item : Fun K "__getitem__" "Vector.__getitem__" s_Vector___getitem__ fGT dGT
  b_item : Binds K dGT ["self", "at"] []
  F_len : Fun K "__len__" "Vector.__len__" s_Vector___len__ fLN dLN
  b_len : Binds K dLN ["self"] []
  F_bool : Fun K "__bool__" "Vector.__bool__" s_Vector___bool__ fBL dBL
  b_bool : Binds K dBL ["self"] []
  F_add : Fun K "__add__" "Vector.__add__" s_Vector___add__ fAD dAD
  b_add : Binds K dAD ["self", "other"] []
  F_sub : Fun K "__sub__" "Vector.__sub__" s_Vector___sub__ fSB dSB
  b_sub : Binds K dSB ["self", "other"] []
  F_neg : Fun K "__neg__" "Vector.__neg__" s_Vector___neg__ fNG dNG
  b_neg : Binds K dNG ["self"] []
  F_mul : Fun K "__mul__" "Vector.__mul__" s_Vector___mul__ fML dML
  b_mul : Binds K dML ["self", "other"] []
  F_dot : Fun K "dot" "Vector.dot" s_Vector_dot fDT dDT
  b_dot : Binds K dDT ["self", "other"] []
  F_eq : Fun K "__eq__" "Vector.__eq__" s_Vector___eq__ fEQ dEQ
  b_eq : Binds K dEQ ["self", "other"] []
  kb_dot : KBinds K dDT ["self", "other"] ["other"] gTwo gTwo
  g_Vector : mg "Vector" = some (.ref C)
  mk_V : Mk K C fI
  c_V : Cls K C
  n_num : NoAttr K C "_numbers"
  sF : PySem.W.selfFirst K C = true
  O_add : OwnD K C (PySem.dunder Operator.Add.info.2) fAD
  O_sub : OwnD K C (PySem.dunder Operator.Sub.info.2) fSB
  O_mul : OwnD K C (PySem.dunder Operator.Mult.info.2) fML
  O_neg : OwnD K C "__neg__" fNG
  O_eq : OwnD K C "__eq__" fEQ
  O_len : OwnD K C "__len__" fLN
  O_bool : OwnD K C "__bool__" fBL
  O_item : OwnD K C "__getitem__" fGT
  fn_item : PySem.W.fnIn K fGT = true
  n_rmul : PySem.W.findIn K (.ref C) (PySem.dunderR Operator.Mult.info.2) = some none
  i_mul : PySem.W.findIn K (.type "int") (PySem.dunder Operator.Mult.info.2) = some fo
  i_rmul : PySem.W.findIn K (.type "int") (PySem.dunderR Operator.Mult.info.2) = some ro
  i_sub : PySem.W.subIn K (.type "int") (.ref C) = some false
  rd_V : CRead K C mc
  cm_of : CMet K C mc "of" pOf fOF
  p_names : PropOf K C "names" pNm fNM
  m_dot : Meth K C "dot" fDT
  nf_V : PySem.W.notFirst K C (.ref C) = true
  ca : PySem.W.findIn K (.ref C) "__class__" = some (some (.builtin "object.__class__"))
  cn : PySem.W.specialIn K (.builtin "object.__class__") "__get__" = some (some (.builtin "getset_descriptor.__get__"))
  ctk : PySem.W.takesIn K (.builtin "object.__class__") = some true
  cm : PySem.W.mroIn K C (.type "object") = some true

section
variable {K : PySem.W.Frag} {mg : Str → Option Value}
/-- the vector of l at a -/
structure VA (C : Addr) (H : Hp) (a : Addr) (l : IL) : Prop where
  ex : ∃ d dx, H a = some (.ins C dx [("_numbers", .ref d)]) ∧ H d = some (.dK (DI l))
  can : Can l
  ok : okL l
theorem VA.same {C : Addr} {H H' : Hp} {a : Addr} {l : IL} (v : VA C H a l) (s : Same H H') : VA C H' a l := by
  obtain ⟨⟨d, dx, h1, h2⟩, c, o⟩ := v
  exact ⟨⟨d, dx, s _ _ h1, s _ _ h2⟩, c, o⟩
theorem VA.but {C q : Addr} {H H' : Hp} {a : Addr} {l : IL} (v : VA C H a l) (t : But q H H') (n : a ≠ q) (hq : ∃ xs, H q = some (.lst xs)) : VA C H' a l := by
  obtain ⟨⟨d, dx, h1, h2⟩, c, o⟩ := v
  have nd : d ≠ q := fun e => by
    obtain ⟨xs, z⟩ := hq
    rw [e, z] at h2
    cases h2
  exact ⟨⟨d, dx, t.st _ _ n h1, t.st _ _ nd h2⟩, c, o⟩
theorem VA.inst {C : Addr} {H : Hp} {a : Addr} {l : IL} (v : VA C H a l) : InsAt H a C := by
  obtain ⟨⟨d, dx, h1, h2⟩, c, o⟩ := v
  exact ⟨dx, _, h1⟩
theorem VA.nd {C : Addr} {H : Hp} {a : Addr} {l : IL} (v : VA C H a l) : (ks l).Nodup := pw_nodup v.can.asc
theorem VA.ty {C : Addr} {H : Hp} {a : Addr} {l : IL} (v : VA C H a l) (V : VF K mg) (e : C = V.C) : TyX K H (.ref a) (.ref C) := by
  obtain ⟨⟨d, dx, h1, h2⟩, c, o⟩ := v
  subst e
  exact .base (.ins h1 V.c_V V.ca V.cn V.ctk V.cm)
def spInit (C : Addr) : Sp := fun vs H Q _ => ∃ x d dx l, vs = [.ref x, .ref d] ∧ H x = some (.ins C dx []) ∧ H d = some (.dK (DI l)) ∧ okL l ∧ (ks l).Nodup ∧ l.length ≤ 60 ∧
  ∀ p r H', H p = none → Oth x H H' → H' x = some (.ins C dx [("_numbers", .ref p)]) → H' p = some (.dK (DI r)) → Kept l r → Q .non H'
def skInit (C : Addr) : SpK := fun vs l H Q E => ∃ x, vs = [x] ∧ (∀ p ∈ l, p.1 ≠ "self") ∧ l.length ≤ sizeLine ∧ ∀ d, H d = none → spInit C [x, .ref d] (upd H d (.dK (kwK l))) Q E
def spOf (C : Addr) : Sp := fun vs H Q _ => ∃ d l, vs = [.ref C, .ref d] ∧ H d = some (.dK (DI l)) ∧ okL l ∧ (ks l).Nodup ∧ l.length ≤ 60 ∧
  ∀ a r H', H a = none → Same H H' → VA C H' a r → Kept l r → Q (.ref a) H'
def spNames (C : Addr) : Sp := fun vs H Q _ => ∃ a l, vs = [.ref a] ∧ VA C H a l ∧ ∀ p, H p = none → Q (.ref p) (upd H p (.tup ((ks l).map V.str)))
def spItem (C : Addr) : Sp := fun vs H Q _ => ∃ a l k d dx, vs = [.ref a, .str k] ∧ H a = some (.ins C dx [("_numbers", .ref d)]) ∧ Rd H d (.dK (DI l)) ∧ okS k = true ∧ Q (.int (vl l k)) H
def spLen (C : Addr) : Sp := fun vs H Q _ => ∃ a l, vs = [.ref a] ∧ VA C H a l ∧ Q (.int l.length) H
def spBool (C : Addr) : Sp := fun vs H Q _ => ∃ a l, vs = [.ref a] ∧ VA C H a l ∧ Q (.bl (!l.isEmpty)) H
def spAdd (C : Addr) (t : Int) : Sp := fun vs H Q _ => ∃ a b l m, vs = [.ref a, .ref b] ∧ VA C H a l ∧ VA C H b m ∧ l.length ≤ 20 ∧ m.length ≤ 20 ∧ Bd 1000 m ∧
  ∀ c r H', H c = none → Same H H' → VA C H' c r → r.length ≤ l.length + m.length → (∀ k, vl r k = vl l k + vl m k * t) → Q (.ref c) H'
def spMul (C : Addr) : Sp := fun vs H Q _ => ∃ a l t, vs = [.ref a, .int t] ∧ VA C H a l ∧ l.length ≤ 20 ∧ Bd 1000 l ∧ t.natAbs < 2 ^ 1000 ∧
  ∀ c r H', H c = none → Same H H' → VA C H' c r → r.length ≤ l.length → (∀ k, vl r k = vl l k * t) → Q (.ref c) H'
def spNeg (C : Addr) : Sp := fun vs H Q _ => ∃ a l, vs = [.ref a] ∧ VA C H a l ∧ l.length ≤ 20 ∧ Bd 1000 l ∧
  ∀ c r H', H c = none → Same H H' → VA C H' c r → r.length ≤ l.length → (∀ k, vl r k = vl l k * -1) → Q (.ref c) H'
def dotI (l m : IL) : Int := ((ks l).map fun k => vl l k * vl m k).sum
def spDot (C : Addr) : Sp := fun vs H Q _ => ∃ a b l m, vs = [.ref a, .ref b] ∧ VA C H a l ∧ VA C H b m ∧ l.length ≤ 20 ∧ Bd 1000 l ∧ Bd 1000 m ∧ ∀ H', Same H H' → Q (.int (dotI l m)) H'
def spEq (C : Addr) : Sp := fun vs H Q _ => ∃ a b l m, vs = [.ref a, .ref b] ∧ VA C H a l ∧ VA C H b m ∧ Q (.bl (decide (l = m))) H
end
theorem g_setf {K : PySem.W.Frag} {ta tv : TE} {f : Str} {D : Ends} {σ : L2.St} {H : Hp} (h : tv σ H fun y H1 => ta σ H1 fun x H2 => ∃ a C dx fs, x = .ref a ∧ H2 a = some (.ins C dx fs) ∧ Cls K C ∧ NoAttr K C f ∧ fs.length < 1000 ∧ D.nx σ (upd H2 a (.ins C dx (putF f y fs)))) : sFld K ta tv f D σ H := h
theorem g_at {K : PySem.W.Frag} {ta : TE} {f : Str} {σ : L2.St} {H : Hp} {Q : VK} (h : ta σ H fun x H1 => ∃ a C dx fs v, x = .ref a ∧ H1 a = some (.ins C dx fs) ∧ Cls K C ∧ NoAttr K C f ∧ fs.lookup f = some v ∧ Q v H1) : L2.tFld K ta f σ H Q := h
theorem g_keysF {K : PySem.W.Frag} {f : Str} {ta : TE} {σ : L2.St} {H : Hp} {R : It → Hp → Prop} (h : L2.tFld K ta f σ H fun x H1 => ∃ d o kvs, x = .ref d ∧ H1 d = some (.frz o (.dK kvs)) ∧ R (Itk d o kvs) H1) (tm : ∀ {Q Q' : VK}, (∀ v H', Q v H' → Q' v H') → ta σ H Q → ta σ H Q' := by intro Q Q' i z; obtain ⟨v, h1, h2⟩ := z; exact ⟨v, h1, i _ _ h2⟩) : iKeys (L2.tFld K ta f) σ H R :=
  tm (fun x H1 z => by
    obtain ⟨a, C, dx, fs, v, e1, e2, e3, e4, e5, d, o, kvs, e, h1, r⟩ := z
    exact ⟨a, C, dx, fs, v, e1, e2, e3, e4, e5, d, o, e, .inl ⟨kvs, h1, r⟩⟩) h
theorem kit_self {K : PySem.W.Frag} {C : Addr} : PySem.W.kitOne K (.ref C) (.ref C) = some true := by unfold PySem.W.kitOne; rw [if_pos (beq_self_eq_true _)]
theorem pe_dgetF {X : Cx} {K : PySem.W.Frag} {o i : Expr} {f : Str} {p pos : Pos} {ta ty : TE} (hK : X.K = K) (hu : X.A.units + 1 < cLine) (ho : PE X o ta) (hi : PE X i ty) (hb : attributeBase o f X.env (eval o X.env) = eval o X.env) (hs : NoSl i) : PE X (.Subscript (.Attribute o f p) i pos) (tDGet (L2.tFld K ta f) ty) := by
  subst hK
  exact pe_dget hu (L2.pe_fld ho hb) hi hs
theorem none_back {H H' : Hp} {p : Addr} (s : Same H H') (n : H' p = none) : H p = none := by
  cases e : H p with
  | none => rfl
  | some o => rw [s _ _ e] at n; cases n
theorem okS_self {s : Str} (h : okS s = true) : s ≠ "self" := by
  unfold okS at h
  simp only [Bool.and_eq_true, Bool.not_eq_true', decide_eq_false_iff_not] at h
  exact h.1.2
section
variable {P : Program} {w : World} {K : PySem.W.Frag} {mg : Str → Option Value} {base : Heap}
theorem k_is_name (V : VF K mg) : FnOk P w K mg base CX0 1 V.fIN V.dIN ["value"] (spIs K okV) := ok_is_name V.F_is_name V.t.n
theorem k_gives_integers (V : VF K mg) : FnOk P w K mg base CX0 2 V.fGI V.dGI ["value"] spGives := ok_gives_integers V.F_gives_integers V.t V.F_is_name V.b_is_name V.g_is_name V.F_is_integer V.b_is_integer V.g_is_integer
theorem k_kept_numbers (V : VF K mg) : FnOk P w K mg base CX0 1 V.fKN V.dKN ["numbers"] spKept := ok_kept_numbers V.F_kept_numbers V.t
theorem k_plus (V : VF K mg) : FnOk P w K mg base CX0 1 V.fPL V.dPL ["one", "other", "times"] spPlus := ok_plus V.F_plus V.t
theorem k_init (V : VF K mg) : FnK P w K mg base CX0 4 V.fI (skInit V.C) := by
  have G_gives_integers := k_gives_integers (P := P) (w := w) (base := base) V
  have G_kept_numbers := k_kept_numbers (P := P) (w := w) (base := base) V
  obtain ⟨oc, od, kV, doc, pm, an, cdv, ct, osl, e, lk, hcd⟩ := V.F_init.ex
  rw [e] at lk
  refine fnK1 (k := 3) (p1 := "self") (pd := "numbers") lk hcd sc_Vector___init__ (fun _ _ _ _ _ _ _ _ _ _ _ h => h) rfl rfl rfl rfl rfl rfl rfl (fun A outer s H vs Q E hr h => ?_)
  obtain ⟨x, d, dx, l, rfl, hx, hd, ok, nd, len, k⟩ := h
  have hu := hu_of hr
  have T := V.t
  refine ⟨_, (pss_cons (ps_if (pt_not (pt_val (pe_call G_gives_integers (hr.mono (by decide)) (by rfl) V.g_gives_integers V.F_gives_integers.kp V.b_gives_integers .nil pass0 (pa_cons (pv 1) pa_nil)))) (pss_one ps_never) pss_nil)
      (pss_one (ps_fld (pv 0) (pe_call G_kept_numbers (hr.mono (by decide)) (by rfl) V.g_kept_numbers V.F_kept_numbers.kp V.b_kept_numbers .nil pass0 (pa_cons (pv 1) pa_nil)) rfl))), ?_⟩
  try dsimp only [cxOf]
  walk_at "hline"
  refine ⟨d, l, rfl, hd, ok, by omega, ?_⟩
  intro H1 s1
  walk_at "hgo"
  refine g_setf ?_
  walk_at "hx"
  refine ⟨d, l, rfl, s1 _ _ hd, nd, by omega, ?_⟩
  intro p r H2 np s2 hp kp
  walk_at "hx"
  have hx2 := s2 _ _ (s1 _ _ hx)
  have npx : p ≠ x := fun z => by rw [z, s1 _ _ hx] at np; cases np
  refine ⟨x, V.C, dx, [], rfl, hx2, V.c_V, V.n_num, by decide, ?_⟩
  walk_at "hx"
  refine k p r _ (none_back s1 np) (fun a o n z => by rw [upd_ne n]; exact s2 _ _ (s1 _ _ z)) upd_same ?_ kp
  rw [upd_ne npx]
  exact hp
theorem insq_of {C : Addr} {H : Hp} {Q : VK} {E : XK} {l : IL} (ok : okL l) (nd : (ks l).Nodup) (len : l.length ≤ 60) (k : ∀ a r H', H a = none → Same H H' → VA C H' a r → Kept l r → Q (.ref a) H') :
    InsQ C (skInit C) [] (l.map fun p => (p.1, V.int p.2)) H Q E := by
  intro x dx hx hdx ne
  refine ⟨.ref x, rfl, fun p hp => ?_, ?_, fun d hd => ?_⟩
  · obtain ⟨q, hq, rfl⟩ := List.mem_map.mp hp
    exact okS_self (ok q.1 (List.mem_map_of_mem hq))
  · rw [List.length_map]
    exact Nat.le_trans (show l.length ≤ 1000 by omega) (by decide)
  · have ndx : d ≠ x := fun z => by rw [z, upd_same] at hd; cases hd
    have hd1 : H d = none := by
      rw [upd_ne ndx] at hd
      by_cases z : d = dx
      · rw [z]; exact hdx
      · rw [upd_ne z] at hd; exact hd
    refine ⟨x, d, dx, l, rfl, ?_, ?_, ok, nd, len, ?_⟩
    · rw [upd_ne ndx.symm]; exact upd_same
    · rw [upd_same, DI_kw]
    · intro p r H' np ot h1 h2 kp
      refine ⟨rfl, ?_⟩
      refine k x r H' hx (fun a o z => ?_) ⟨⟨p, dx, h1, h2⟩, kp.can, fun y hy => ok y (kp.sub y hy)⟩ kp
      have n1 : a ≠ x := ne_of_none z hx
      refine ot a o n1 ?_
      rw [upd_ne (ne_of_none z hd1), upd_ne n1, upd_ne (ne_of_none z hdx)]
      exact z
/-- C(**d) -/
theorem g_newS {C : Addr} {E : XK} {tf te : TE} {σ : L2.St} {H : Hp} {Q : VK} (h : tf σ H fun y H1 => y = .ref C ∧ te σ H1 fun z H2 => ∃ a l, z = .ref a ∧ H2 a = some (.dK (kwK l)) ∧ InsQ C (skInit C) [] l H2 Q E) : tNewS C (skInit C) E tf te σ H Q := h
theorem new_of {C : Addr} {H : Hp} {Q : VK} {E : XK} {d : Addr} {l : IL} (hd : H d = some (.dK (DI l))) (ok : okL l) (nd : (ks l).Nodup) (len : l.length ≤ 60) (k : ∀ a r H', H a = none → Same H H' → VA C H' a r → Kept l r → Q (.ref a) H') :
    ∃ a l', V.ref d = .ref a ∧ H a = some (.dK (kwK l')) ∧ InsQ C (skInit C) [] l' H Q E := ⟨d, _, rfl, by rw [hd, DI_kw], insq_of ok nd len k⟩
theorem ok_of (V : VF K mg) : FnOk P w K mg base CX0 6 V.fOF V.dOF ["cls", "numbers"] (spOf V.C) := by
  have G_gives_integers := k_gives_integers (P := P) (w := w) (base := base) V
  have G_init := k_init (P := P) (w := w) (base := base) V
  refine V.F_of.ok sc_Vector_of (fun vs H Q E h => ?_) (fun cdv A outer s H vs Q E hr h => ?_)
  · obtain ⟨d, l, rfl, _⟩ := h
    rfl
  · obtain ⟨d, l, rfl, hd, ok, nd, len, k⟩ := h
    have hu := hu_of hr
    have T := V.t
    refine ⟨_, (pss_cons (ps_if (pt_not (pt_val (pe_call G_gives_integers (hr.mono (by decide)) (by rfl) V.g_gives_integers V.F_gives_integers.kp V.b_gives_integers .nil pass0 (pa_cons (pv 1) pa_nil)))) (pss_one ps_never) pss_nil)
      (pss_one (ps_ret (pe_newS (pv 0) V.mk_V G_init (hr.mono (by decide)) pass0 (pv 1))))), ?_⟩
    try dsimp only [cxOf]
    walk_at "hline"
    refine ⟨d, l, rfl, hd, ok, by omega, ?_⟩
    intro H1 s1
    walk_at "hgo"
    refine g_newS ?_
    walk_at "hgo"
    refine ⟨rfl, ?_⟩
    walk_at "hgo"
    exact new_of (s1 _ _ hd) ok nd len fun a r H' na s2 v kp => k a r H' (none_back s1 na) (same_trans s1 s2) v kp
theorem ok_names (V : VF K mg) : FnOk P w K mg base CX0 1 V.fNM V.dNM ["self"] (spNames V.C) := by
  refine V.F_names.ok sc_Vector_names (fun vs H Q E h => ?_) (fun cdv A outer s H vs Q E hr h => ?_)
  · obtain ⟨a, l, rfl, _⟩ := h
    rfl
  · obtain ⟨a, l, rfl, v, k⟩ := h
    obtain ⟨⟨d, dx, h1, h2⟩, cn, ok⟩ := v
    have hu := hu_of hr
    have T := V.t
    refine ⟨_, (pss_one (ps_ret (pe_callTy (KwX.call_tupleD rfl) (by rfl) T.tuple (by decide +kernel) (pa_cons (L2.pe_fld (pv 0) (by rfl)) pa_nil)))), ?_⟩
    try dsimp only [cxOf]
    walk_at "hgo"
    refine g_at ?_
    walk_at "hgo"
    refine ⟨a, V.C, dx, _, .ref d, rfl, h1, V.c_V, V.n_num, rfl, ?_⟩
    walk_at "hgo"
    refine ⟨d, _, rfl, .inl h2, ?_⟩
    intro p hp
    have e : ((DI l).map fun kv => kV kv.1) = (ks l).map L2.V.str := by unfold DI ks; rw [List.map_map, List.map_map]; rfl
    rw [e]
    exact k p hp
theorem ok_item (V : VF K mg) : FnOk P w K mg base CX0 1 V.fGT V.dGT ["self", "at"] (spItem V.C) := by
  refine V.F_item.ok sc_Vector___getitem__ (fun vs H Q E h => ?_) (fun cdv A outer s H vs Q E hr h => ?_)
  · obtain ⟨a, l, x, d, dx, rfl, _⟩ := h
    rfl
  · obtain ⟨a, l, x, d, dx, rfl, h1, h2, okx, k⟩ := h
    have hu := hu_of hr
    have T := V.t
    refine ⟨_, (pss_cons (ps_if (pt_not (pt_val (pe_callB call_isi (by rfl) T.isinstance (by decide +kernel) (pa_cons (pv 1) (pa_cons (pe_bltn (v := .ty "str") (u := .type "str") (by rfl) T.str (by decide +kernel) rfl) pa_nil))))) (pss_one (ps_ret pe_int)) pss_nil)
      (pss_one (ps_ret (pe_dget2 hu (L2.pe_fld (pv 0) (by rfl)) (pv 1) pe_int ⟨rfl, rfl, rfl, rfl⟩)))), ?_⟩
    try dsimp only [cxOf]
    walk_at "hgo"
    refine g_isi (kd_name okx).ty (b := true) (by decide +kernel) ?_
    walk_at "hgo"
    refine g_dget2 ?_
    refine g_at ?_
    walk_at "hgo"
    refine ⟨a, V.C, dx, _, .ref d, rfl, h1, V.c_V, V.n_num, rfl, ?_⟩
    refine ⟨d, rfl, .inl ⟨_, h2⟩, ?_⟩
    walk_at "hgo"
    refine ⟨_, rd_get h2, ?_⟩
    rw [get0]
    exact k
theorem ok_len (V : VF K mg) : FnOk P w K mg base CX0 1 V.fLN V.dLN ["self"] (spLen V.C) := by
  refine V.F_len.ok sc_Vector___len__ (fun vs H Q E h => ?_) (fun cdv A outer s H vs Q E hr h => ?_)
  · obtain ⟨a, l, rfl, _⟩ := h
    rfl
  · obtain ⟨a, l, rfl, v, k⟩ := h
    obtain ⟨⟨d, dx, h1, h2⟩, cn, ok⟩ := v
    have hu := hu_of hr
    have T := V.t
    refine ⟨_, (pss_one (ps_ret (pe_callB call_lenD (by rfl) T.len (by decide +kernel) (pa_cons (L2.pe_fld (pv 0) (by rfl)) pa_nil)))), ?_⟩
    try dsimp only [cxOf]
    walk_at "hgo"
    refine g_at ?_
    walk_at "hgo"
    refine ⟨a, V.C, dx, _, .ref d, rfl, h1, V.c_V, V.n_num, rfl, ?_⟩
    walk_at "hgo"
    refine ⟨d, _, rfl, h2, ?_⟩
    rw [DI_len]
    exact k
theorem ok_bool (V : VF K mg) : FnOk P w K mg base CX0 1 V.fBL V.dBL ["self"] (spBool V.C) := by
  refine V.F_bool.ok sc_Vector___bool__ (fun vs H Q E h => ?_) (fun cdv A outer s H vs Q E hr h => ?_)
  · obtain ⟨a, l, rfl, _⟩ := h
    rfl
  · obtain ⟨a, l, rfl, v, k⟩ := h
    obtain ⟨⟨d, dx, h1, h2⟩, cn, ok⟩ := v
    have hu := hu_of hr
    have T := V.t
    refine ⟨_, (pss_one (ps_ret (pe_callTy KwX.call_boolD (by rfl) T.bool (by decide +kernel) (pa_cons (L2.pe_fld (pv 0) (by rfl)) pa_nil)))), ?_⟩
    try dsimp only [cxOf]
    walk_at "hgo"
    refine g_at ?_
    walk_at "hgo"
    refine ⟨a, V.C, dx, _, .ref d, rfl, h1, V.c_V, V.n_num, rfl, ?_⟩
    walk_at "hgo"
    refine ⟨d, _, rfl, h2, ?_⟩
    have e : (DI l).isEmpty = l.isEmpty := by cases l <;> rfl
    rw [e]
    exact k
end

def mulL (l : IL) (t : Int) : IL := l.map fun p => (p.1, p.2 * t)
theorem ks_mulL (l : IL) (t : Int) : ks (mulL l t) = ks l := by unfold ks mulL; rw [List.map_map]; rfl
theorem look_mulL (l : IL) (t : Int) (k : Str) : (mulL l t).lookup k = (l.lookup k).map (· * t) := by
  induction l with
  | nil => rfl
  | cons p r ih =>
    show List.lookup k ((p.1, p.2 * t) :: mulL r t) = _
    rw [List.lookup_cons, List.lookup_cons]
    by_cases e : k = p.1
    · rw [beq_iff_eq.mpr e]; rfl
    · rw [beq_eq_false_iff_ne.mpr e]; exact ih
theorem vl_mulL (l : IL) (t : Int) (k : Str) : vl (mulL l t) k = vl l k * t := by
  unfold vl
  rw [look_mulL]
  cases l.lookup k with
  | none => show (0 : Int) = 0 * t; rw [Int.zero_mul]
  | some i => rfl
theorem mulL_put {l : IL} {t : Int} {i : Nat} {x : Str} {j : Int} (n : (ks l).Nodup) (h : l[i]? = some (x, j)) : putI (mulL (l.take i) t) x (vl l x * t) = mulL (l.take (i + 1)) t := by
  have hk : (ks l)[i]? = some x := by unfold ks; rw [List.getElem?_map, h]; rfl
  have q : x ∉ ks (mulL (l.take i) t) := by
    rw [ks_mulL]
    have e : ks (l.take i) = (ks l).take i := by unfold ks; rw [List.map_take]
    rw [e]
    exact not_taken n hk
  have v : vl l x = j := vl_mem (p := (x, j)) n (List.mem_of_getElem? h)
  rw [putI_new q, v]
  unfold mulL
  have e : l.take (i + 1) = l.take i ++ [(x, j)] := by rw [List.take_add_one, h]; rfl
  rw [e, List.map_append]
  rfl
theorem len_sub : ∀ {l m : List Str}, l.Nodup → (∀ x ∈ l, x ∈ m) → l.length ≤ m.length
  | [], _, _, _ => Nat.zero_le _
  | x :: r, m, n, h => by
    obtain ⟨n1, n2⟩ := List.nodup_cons.mp n
    have hx : x ∈ m := h x List.mem_cons_self
    have := len_sub (m := m.erase x) n2 fun y hy => (List.mem_erase_of_ne (fun (e : y = x) => n1 (by rw [← e]; exact hy))).mpr (h y (List.mem_cons_of_mem _ hy))
    rw [List.length_erase_of_mem hx] at this
    have := List.length_pos_of_mem hx
    rw [List.length_cons]
    omega
theorem sub_all {l m : List Str} (n : l.Nodup) (h : ∀ x ∈ l, x ∈ m) (e : l.length = m.length) : ∀ x ∈ m, x ∈ l := fun x hx => Classical.byContradiction fun q => by
  have := len_sub (m := m.erase x) n fun y hy => (List.mem_erase_of_ne (fun (z : y = x) => q (by rw [← z]; exact hy))).mpr (h y hy)
  rw [List.length_erase_of_mem hx] at this
  have := List.length_pos_of_mem hx
  omega
theorem eq_can {l m : IL} (c : Can l) (d : Can m) : ((DI l).length == (DI m).length && (DI l).all (hitI (DI m))) = decide (l = m) := by
  rw [Bool.eq_iff_iff, Bool.and_eq_true, beq_iff_eq, List.all_eq_true, decide_eq_true_eq, DI_len, DI_len]
  constructor
  · rintro ⟨e, h⟩
    have hit : ∀ k ∈ ks l, k ∈ ks m ∧ vl m k = vl l k := by
      intro k hk
      obtain ⟨p, hp, rfl⟩ := List.mem_map.mp hk
      have q := h (Sum.inr p.1, L2.V.int p.2) (List.mem_map_of_mem (f := fun p : Str × Int => ((Sum.inr p.1 : Key), L2.V.int p.2)) hp)
      unfold hitI at q
      rw [DI_val] at q
      by_cases z : p.1 ∈ ks m
      · rw [look_some z] at q
        have q2 : L2.V.int (vl m p.1) = L2.V.int p.2 := of_decide_eq_true q
        exact ⟨z, by rw [V.int.inj q2, vl_mem (pw_nodup c.asc) hp]⟩
      · rw [look_none z] at q
        cases q
    refine c.ext d fun k => ?_
    by_cases z : k ∈ ks l
    · exact (hit k z).2.symm
    · have z2 : k ∉ ks m := fun w => z (sub_all (pw_nodup c.asc) (fun x hx => (hit x hx).1) (by rw [ks_len, ks_len]; exact e) k w)
      rw [vl_none z, vl_none z2]
  · rintro rfl
    refine ⟨rfl, fun p hp => ?_⟩
    unfold DI at hp
    obtain ⟨q, hq, rfl⟩ := List.mem_map.mp hp
    unfold hitI
    show (match valV (DI l) (Sum.inr q.1 : Key) with | some v => decide (v = L2.V.int q.2) | none => false) = true
    rw [DI_val, look_some (List.mem_map_of_mem hq), vl_mem (pw_nodup c.asc) hq]
    exact decide_eq_true rfl
theorem rd_frz {d e : Addr} {H H1 : Hp} {od : Obj} {l m : IL} (p1 : H1 d = some (.frz od (.dK (DI l)))) (p3 : Oth d H H1) (h2 : H d = some (.dK (DI l))) (g2 : H e = some (.dK (DI m))) : Rd H1 e (.dK (DI m)) := by
  by_cases z : e = d
  · rw [z, h2] at g2
    have q : DI l = DI m := HO.dK.inj (Option.some.inj g2)
    rw [z, ← q]
    exact .inr ⟨od, p1⟩
  · exact .inl (p3 _ _ z g2)
section
variable {P : Program} {w : World} {K : PySem.W.Frag} {mg : Str → Option Value} {base : Heap}
theorem ok_add (V : VF K mg) : FnOk P w K mg base CX0 6 V.fAD V.dAD ["self", "other"] (spAdd V.C 1) := by
  have G_plus := k_plus (P := P) (w := w) (base := base) V
  have G_init := k_init (P := P) (w := w) (base := base) V
  refine V.F_add.ok sc_Vector___add__ (fun vs H Q E h => ?_) (fun cdv A outer s H vs Q E hr h => ?_)
  · obtain ⟨a, b, l, m, rfl, _⟩ := h
    rfl
  · obtain ⟨a, b, l, m, rfl, va, vb, fl, fm, bm, k⟩ := h
    have hu := hu_of hr
    have T := V.t
    refine ⟨_, (pss_cons (ps_set (i := 2) sc_Vector___add__.nd rfl (Or.inl rfl) (pe_call G_plus (hr.mono (by decide)) (by rfl) V.g_plus V.F_plus.kp V.b_plus .nil pass0 (pa_cons (L2.pe_fld (pv 0) (by rfl)) (pa_cons (L2.pe_fld (pv 1) (by rfl)) (pa_cons pe_int pa_nil)))))
      (pss_one (ps_ret (pe_newS (pe_glob (v := .ref V.C) rfl V.g_Vector rfl) V.mk_V G_init (hr.mono (by decide)) pass0 (pv 2))))), ?_⟩
    try dsimp only [cxOf]
    obtain ⟨⟨d, dx, h1, h2⟩, cn, ok⟩ := id va
    obtain ⟨⟨e, ex, g1, g2⟩, cm, om⟩ := id vb
    walk_at "hgo"
    refine g_at ?_
    walk_at "hgo"
    refine ⟨a, V.C, dx, _, .ref d, rfl, h1, V.c_V, V.n_num, rfl, ?_⟩
    walk_at "hgo"
    refine g_at ?_
    walk_at "hgo"
    refine ⟨b, V.C, ex, _, .ref e, rfl, g1, V.c_V, V.n_num, rfl, ?_⟩
    walk_at "hgo"
    refine ⟨d, e, l, m, 1, rfl, h2, g2, va.nd, vb.nd, ok, om, by omega, by omega, bm, by decide, ?_⟩
    intro p r H1 np s1 hp nr okr lr vr
    walk_at "hgo"
    refine g_newS ?_
    walk_at "hgo"
    refine ⟨rfl, ?_⟩
    walk_at "hgo"
    exact new_of hp okr nr (by omega) fun c r' H' nc s2 v kp => k c r' H' (none_back s1 nc) (same_trans s1 s2) v (Nat.le_trans kp.len lr) fun x => by rw [kp.vl, vr]
theorem ok_sub (V : VF K mg) : FnOk P w K mg base CX0 6 V.fSB V.dSB ["self", "other"] (spAdd V.C (-1)) := by
  have G_plus := k_plus (P := P) (w := w) (base := base) V
  have G_init := k_init (P := P) (w := w) (base := base) V
  refine V.F_sub.ok sc_Vector___sub__ (fun vs H Q E h => ?_) (fun cdv A outer s H vs Q E hr h => ?_)
  · obtain ⟨a, b, l, m, rfl, _⟩ := h
    rfl
  · obtain ⟨a, b, l, m, rfl, va, vb, fl, fm, bm, k⟩ := h
    have hu := hu_of hr
    have T := V.t
    refine ⟨_, (pss_cons (ps_set (i := 2) sc_Vector___sub__.nd rfl (Or.inl rfl) (pe_call G_plus (hr.mono (by decide)) (by rfl) V.g_plus V.F_plus.kp V.b_plus .nil pass0 (pa_cons (L2.pe_fld (pv 0) (by rfl)) (pa_cons (L2.pe_fld (pv 1) (by rfl)) (pa_cons (pe_un un_neg pe_int) pa_nil)))))
      (pss_one (ps_ret (pe_newS (pe_glob (v := .ref V.C) rfl V.g_Vector rfl) V.mk_V G_init (hr.mono (by decide)) pass0 (pv 2))))), ?_⟩
    try dsimp only [cxOf]
    obtain ⟨⟨d, dx, h1, h2⟩, cn, ok⟩ := id va
    obtain ⟨⟨e, ex, g1, g2⟩, cm, om⟩ := id vb
    walk_at "hgo"
    refine g_at ?_
    walk_at "hgo"
    refine ⟨a, V.C, dx, _, .ref d, rfl, h1, V.c_V, V.n_num, rfl, ?_⟩
    walk_at "hgo"
    refine g_at ?_
    walk_at "hgo"
    refine ⟨b, V.C, ex, _, .ref e, rfl, g1, V.c_V, V.n_num, rfl, ?_⟩
    walk_at "hgo"
    refine ⟨d, e, l, m, -1, rfl, h2, g2, va.nd, vb.nd, ok, om, by omega, by omega, bm, by decide, ?_⟩
    intro p r H1 np s1 hp nr okr lr vr
    walk_at "hgo"
    refine g_newS ?_
    walk_at "hgo"
    refine ⟨rfl, ?_⟩
    walk_at "hgo"
    exact new_of hp okr nr (by omega) fun c r' H' nc s2 v kp => k c r' H' (none_back s1 nc) (same_trans s1 s2) v (Nat.le_trans kp.len lr) fun x => by rw [kp.vl, vr]
theorem ok_mul (V : VF K mg) : FnOk P w K mg base CX0 6 V.fML V.dML ["self", "other"] (spMul V.C) := by
  have G_init := k_init (P := P) (w := w) (base := base) V
  refine V.F_mul.ok sc_Vector___mul__ (fun vs H Q E h => ?_) (fun cdv A outer s H vs Q E hr h => ?_)
  · obtain ⟨a, l, t, rfl, _⟩ := h
    rfl
  · obtain ⟨a, l, t, rfl, va, fl, bl, bt, k⟩ := h
    have hu := hu_of hr
    have T := V.t
    refine ⟨_, (pss_cons (KwX.ps_setDcL (i := 2) (own := [("name", 3)]) (g := gName 3) rfl sc_Vector___mul__.nd rfl rfl (KwX.swd_true rfl rfl rfl (by decide +kernel)) (pi_keys (L2.pe_fld (pv 0) (by rfl))) (blkOk_by (own := [("name", 3)]) (N := N_Vector___mul__) (sc := defScope s_Vector___mul__) (by decide +kernel)) (fun _ _ _ _ _ => pg_name (i := 3) sc_Vector___mul__.nd rfl (Or.inl rfl)) (fun _ _ _ _ _ => pts_nil) (fun _ _ _ _ _ => (pv 3)) (fun _ _ _ _ _ => (pe_op op_mulW (pe_dgetF (K := K) rfl hu (pv 0) (pv 3) (by rfl) (fun _ _ => rfl)) (pv 1))))
      (pss_one (ps_ret (pe_newS (pe_glob (v := .ref V.C) rfl V.g_Vector rfl) V.mk_V G_init (hr.mono (by decide)) pass0 (pv 2))))), ?_⟩
    try dsimp only [cxOf]
    obtain ⟨⟨d, dx, h1, h2⟩, cn, ok⟩ := id va
    have nad : a ≠ d := fun z => by rw [z, h2] at h1; cases h1
    refine g_seq ?_
    refine g_lockS d _ h2 trivial fun od => ?_
    walk_at "hx"
    refine g_dc ?_
    refine g_keysF ?_
    refine g_at ?_
    walk_at "hx"
    refine ⟨a, V.C, dx, _, .ref d, rfl, by rw [upd_ne nad]; exact h1, V.c_V, V.n_num, rfl, ?_⟩
    refine ⟨d, od, _, rfl, upd_same, fun D hD => ?_⟩
    have ndD : D ≠ d := fun e => by rw [e, upd_same] at hD; cases hD
    rw [upd_ne ndD] at hD
    refine dc_it walk_keys (fun i H' => H' d = some (.frz od (.dK (DI l))) ∧ H' D = some (.dK (DI (mulL (l.take i) t))) ∧ Oth d H H') ?_ (fun _ _ _ z => z.1) ?_ ?_
    · refine ⟨?_, upd_same, ?_⟩
      · rw [upd_ne ndD.symm]; exact upd_same
      · exact (oth_upd (H := H)).put hD
    · rintro i x H1 H2 hi ⟨p1, p2, p3⟩ ⟨rfl, ky, v, hkv, rfl⟩
      obtain ⟨x, j, hx, rfl, rfl, mx⟩ := di_at hkv
      walk_at "hgo"
      refine ⟨rfl, ?_⟩
      walk_at "hgo"
      refine g_dget ?_
      refine g_at ?_
      walk_at "hgo"
      refine ⟨a, V.C, dx, _, .ref d, rfl, p3 _ _ nad h1, V.c_V, V.n_num, rfl, ?_⟩
      walk_at "hgo"
      refine ⟨d, _, rfl, rd_at (.inr ⟨od, p1⟩) mx, ?_⟩
      walk_at "hgo"
      refine g_I (wide_mul (bl x) bt (by decide) (by decide) (by decide)) ?_
      refine ⟨_, Sum.inr x, rfl, p2, ?_, ?_, ?_, ?_⟩
      · rw [DI_len]
        unfold mulL
        rw [List.length_map, List.length_take]
        exact Nat.lt_of_lt_of_le (show min i l.length < 1000 by omega) (by decide)
      · rw [upd_ne ndD.symm]; exact p1
      · rw [upd_same, DI_put, mulL_put va.nd hx]
      · exact p3.put hD
    · rintro H1 ⟨p1, p2, p3⟩
      refine ⟨p1, ?_⟩
      rw [DI_len, List.take_length] at p2
      have s1 := p3.back h2
      have hD1 : upd H1 d (.dK (DI l)) D = some (.dK (DI (mulL l t))) := by rw [upd_ne ndD]; exact p2
      walk_at "hgo"
      refine g_newS ?_
      walk_at "hgo"
      refine ⟨rfl, ?_⟩
      walk_at "hgo"
      refine new_of hD1 (fun y hy => ok y (by rw [ks_mulL] at hy; exact hy)) (by rw [ks_mulL]; exact va.nd) (by unfold mulL; rw [List.length_map]; omega) fun c r' H' nc s2 v kp => k c r' H' (none_back s1 nc) (same_trans s1 s2) v ?_ fun x => by rw [kp.vl, vl_mulL]
      have := kp.len
      unfold mulL at this
      rw [List.length_map] at this
      exact this
theorem ok_neg (V : VF K mg) : FnOk P w K mg base CX0 7 V.fNG V.dNG ["self"] (spNeg V.C) := by
  have G_mul := (ok_mul (P := P) (w := w) (base := base) V).raw V.b_mul .nil
  refine V.F_neg.ok sc_Vector___neg__ (fun vs H Q E h => ?_) (fun cdv A outer s H vs Q E hr h => ?_)
  · obtain ⟨a, l, rfl, _⟩ := h
    rfl
  · obtain ⟨a, l, rfl, va, fl, bl, k⟩ := h
    have hu := hu_of hr
    have T := V.t
    refine ⟨_, (pss_one (ps_ret (pe_op (op_mulO (op := .Mult) V.O_mul V.sF V.n_rmul V.i_mul V.i_rmul V.i_sub G_mul (hr.mono (by decide)) pass0) (pv 0) (pe_un un_neg pe_int)))), ?_⟩
    try dsimp only [cxOf]
    walk_at "hgo"
    refine ⟨a, -1, rfl, rfl, va.inst, a, l, -1, rfl, va, fl, bl, by decide, ?_⟩
    intro c r H' nc s1 v lr vr
    exact ⟨c, rfl, k c r H' nc s1 v lr vr⟩
theorem ok_dot (V : VF K mg) : FnOk P w K mg base CX0 3 V.fDT V.dDT ["self", "other"] (spDot V.C) := by
  have G_item := (ok_item (P := P) (w := w) (base := base) V).raw V.b_item .nil
  refine V.F_dot.ok sc_Vector_dot (fun vs H Q E h => ?_) (fun cdv A outer s H vs Q E hr h => ?_)
  · obtain ⟨a, b, l, m, rfl, _⟩ := h
    rfl
  · obtain ⟨a, b, l, m, rfl, va, vb, fl, bl, bm, k⟩ := h
    have hu := hu_of hr
    have T := V.t
    refine ⟨_, (pss_one (ps_ret (pe_callB (cr_sum rfl) (by rfl) T.sum (by decide +kernel) (pa_cons (pe_lock (pe_lc (own := [("name", 2)]) (g := gName 2) rfl sc_Vector_dot.nd (pi_keys (L2.pe_fld (pv 0) (by rfl))) (blkOk_by (own := [("name", 2)]) (N := N_Vector_dot) (sc := defScope s_Vector_dot) (by decide +kernel)) (fun _ _ _ _ _ => pg_name (i := 2) sc_Vector_dot.nd rfl (Or.inl rfl)) (fun _ _ _ _ _ => pts_nil) (fun _ _ _ _ _ => (pe_op op_mulW (ix_own V.O_item V.fn_item G_item (hr.mono (by decide)) pass0 (pv 0) (pv 2) (fun _ _ => rfl)) (ix_own V.O_item V.fn_item G_item (hr.mono (by decide)) pass0 (pv 1) (pv 2) (fun _ _ => rfl)))))) pa_nil)))), ?_⟩
    try dsimp only [cxOf]
    obtain ⟨⟨d, dx, h1, h2⟩, cn, ok⟩ := id va
    obtain ⟨⟨e, ex, g1, g2⟩, cm, om⟩ := id vb
    have nad : a ≠ d := fun z => by rw [z, h2] at h1; cases h1
    have nbd : b ≠ d := fun z => by rw [z, h2] at g1; cases g1
    walk_at "hgo"
    refine g_lockE d _ h2 trivial fun od => ?_
    walk_at "hgo"
    refine g_keysF ?_
    refine g_at ?_
    walk_at "hx"
    refine ⟨a, V.C, dx, _, .ref d, rfl, by rw [upd_ne nad]; exact h1, V.c_V, V.n_num, rfl, ?_⟩
    refine ⟨d, od, _, rfl, upd_same, fun D hD => ?_⟩
    have ndD : D ≠ d := fun e => by rw [e, upd_same] at hD; cases hD
    rw [upd_ne ndD] at hD
    refine lc_it walk_keys (fun i H' => H' d = some (.frz od (.dK (DI l))) ∧ H' D = some (.lst ((((ks l).take i).map fun k => vl l k * vl m k).map L2.V.int)) ∧ Oth d H H') ?_ (fun _ _ _ z => z.1) ?_ ?_
    · refine ⟨?_, upd_same, ?_⟩
      · rw [upd_ne ndD.symm]; exact upd_same
      · exact (oth_upd (H := H)).put hD
    · rintro i x H1 H2 hi ⟨p1, p2, p3⟩ ⟨rfl, ky, v, hkv, rfl⟩
      obtain ⟨x, j, hx, rfl, rfl, mx⟩ := di_at hkv
      have hk : (ks l)[i]? = some x := by unfold ks; rw [List.getElem?_map, hx]; rfl
      walk_at "hgo"
      refine ⟨rfl, ?_⟩
      walk_at "hgo"
      refine ⟨a, rfl, ⟨dx, _, p3 _ _ nad h1⟩, a, l, x, d, dx, rfl, p3 _ _ nad h1, .inr ⟨od, p1⟩, ok x mx, ?_⟩
      walk_at "hgo"
      have re := rd_frz p1 p3 h2 g2
      refine ⟨b, rfl, ⟨ex, _, p3 _ _ nbd g1⟩, b, m, x, e, ex, rfl, p3 _ _ nbd g1, re, ok x mx, ?_⟩
      refine g_I (wide_mul (bl x) (bm x) (by decide) (by decide) (by decide)) ?_
      refine ⟨_, p2, ?_, ?_, upd_same.trans ?_, ?_⟩
      · rw [List.length_map, List.length_map, List.length_take, ks_len]
        exact Nat.lt_of_lt_of_le (show min i l.length < 1000 by omega) (by decide)
      · rw [upd_ne ndD.symm]; exact p1
      · rw [take_snoc hk, List.map_append, List.map_append]; rfl
      · exact p3.put hD
    · rintro H1 ⟨p1, p2, p3⟩
      refine ⟨p1, ?_⟩
      rw [DI_len, ← ks_len, List.take_length] at p2
      have s1 := p3.back h2
      have hD1 : upd H1 d (.dK (DI l)) D = some (.lst (((ks l).map fun k => vl l k * vl m k).map L2.V.int)) := by rw [upd_ne ndD]; exact p2
      refine g_nil ?_
      exact ⟨D, _, rfl, SqL.of hD1, k _ s1⟩
theorem ok_eq (V : VF K mg) : FnOk P w K mg base CX0 1 V.fEQ V.dEQ ["self", "other"] (spEq V.C) := by
  refine V.F_eq.ok sc_Vector___eq__ (fun vs H Q E h => ?_) (fun cdv A outer s H vs Q E hr h => ?_)
  · obtain ⟨a, b, l, m, rfl, _⟩ := h
    rfl
  · obtain ⟨a, b, l, m, rfl, va, vb, k⟩ := h
    have hu := hu_of hr
    have T := V.t
    refine ⟨_, (pss_one (ps_ret (pe_and (pe_callB call_isi (by rfl) T.isinstance (by decide +kernel) (pa_cons (pv 1) (pa_cons (pe_glob (v := .ref V.C) rfl V.g_Vector rfl) pa_nil))) (pe_one (pe_cmpR (KwX.op_eqDI (hr.units0)) (L2.pe_fld (pv 0) (by rfl)) (L2.pe_fld (pv 1) (by rfl)) (nomark _)))))), ?_⟩
    try dsimp only [cxOf]
    obtain ⟨⟨d, dx, h1, h2⟩, cn, ok⟩ := id va
    obtain ⟨⟨e, ex, g1, g2⟩, cm, om⟩ := id vb
    walk_at "hgo"
    refine ⟨.ref b, .ref V.C, .ref V.C, .ref V.C, true, rfl, .own V.C, vb.ty V rfl, kit_self, ?_⟩
    walk_at "hgo"
    refine g_at ?_
    walk_at "hgo"
    refine ⟨a, V.C, dx, _, .ref d, rfl, h1, V.c_V, V.n_num, rfl, ?_⟩
    refine g_at ?_
    walk_at "hgo"
    refine ⟨b, V.C, ex, _, .ref e, rfl, g1, V.c_V, V.n_num, rfl, ?_⟩
    refine ⟨d, e, DI l, DI m, rfl, rfl, h2, g2, DI_int, fun _ _ => DI_some, ?_⟩
    rw [eq_can cn cm]
    exact k
end

theorem Led.put {q p : Addr} {b b0 : Nat} {H H1 : Hp} {u : HO} (l : Led q b H H1) (hP : Pen H q b0) (hp : H p = none) : Led q b H (upd H1 p u) := l.keep hP hp But.self l.but
/-- rows (name, number) -/
inductive Cells (H : Hp) : List Addr → IL → Prop
  | nil : Cells H [] []
  | cons {t : Addr} {ts : List Addr} {p : Str × Int} {r : IL} : H t = some (.tup [.str p.1, .int p.2]) → Cells H ts r → Cells H (t :: ts) (p :: r)
theorem Cells.same {H H' : Hp} (s : Same H H') : ∀ {ts : List Addr} {r : IL}, Cells H ts r → Cells H' ts r
  | _, _, .nil => .nil
  | _, _, .cons h t => .cons (s _ _ h) (t.same s)
theorem Cells.snoc {H : Hp} {t : Addr} {p : Str × Int} (h : H t = some (.tup [.str p.1, .int p.2])) : ∀ {ts : List Addr} {r : IL}, Cells H ts r → Cells H (ts ++ [t]) (r ++ [p])
  | _, _, .nil => .cons h .nil
  | _, _, .cons h1 t1 => .cons h1 (t1.snoc h)
theorem Cells.len {H : Hp} : ∀ {ts : List Addr} {r : IL}, Cells H ts r → ts.length = r.length
  | _, _, .nil => rfl
  | _, _, .cons _ t => congrArg (· + 1) t.len
structure Rows (H : Hp) (p : Addr) (r : IL) : Prop where
  ex : ∃ ts : List Addr, H p = some (.lst (ts.map L2.V.ref)) ∧ Cells H ts r
theorem Rows.same {H H' : Hp} {p : Addr} {r : IL} (h : Rows H p r) (s : Same H H') : Rows H' p r := by
  obtain ⟨ts, h1, h2⟩ := h
  exact ⟨ts, s _ _ h1, h2.same s⟩
def pd (r : IL) : PyData := .list (r.map fun p => .tuple [.str p.1, .int p.2])
theorem cells_dp {K : PySem.W.Frag} {H : Hp} : ∀ {ts : List Addr} {r : IL}, Cells H ts r → DpAll K H (ts.map L2.V.ref) (r.map fun p => .tuple [.str p.1, .int p.2])
  | _, _, .nil => .nil
  | _, _, .cons h t => .cons (.tup (SqT.of h) (.cons (.str _) (.cons (.int _) .nil))) (cells_dp t)
theorem Rows.dp {K : PySem.W.Frag} {H : Hp} {p : Addr} {r : IL} (h : Rows H p r) : Dp K H (.ref p) (pd r) := by
  obtain ⟨ts, h1, h2⟩ := h
  exact .lst (SqL.of h1) (cells_dp h2)
theorem g_prop {C : Addr} {sp : Sp} {dvs : List L2.V} {E : XK} {ta : TE} {σ : L2.St} {H : Hp} {Q : VK} (h : ta σ H fun x H1 => ∃ a dx fs, x = .ref a ∧ H1 a = some (.ins C dx fs) ∧ sp (.ref a :: dvs) H1 Q E) : tProp C sp dvs E ta σ H Q := h
theorem Cells.past {H : Hp} {D : Addr} {xs : List L2.V} {u : HO} (hD : H D = some (.lst xs)) : ∀ {ts : List Addr} {r : IL}, Cells H ts r → Cells (upd H D u) ts r
  | _, _, .nil => .nil
  | _, _, .cons h t => .cons (by rw [upd_ne (fun e => by rw [e, hD] at h; cases h)]; exact h) (t.past hD)
def spWhole : Sp := fun vs H Q _ => ∃ (q : Addr) (b : Nat), vs = [.ref q] ∧ Pen H q b ∧ b ≤ 80000 ∧ ∀ (i : Int) (H' : Hp), i.natAbs < 2 ^ 400 → Led q (b + 4) H H' → Q (.int i) H'
def menu0 : List Str := [Str.ofString "a", Str.ofString "b", Str.ofString "c", Str.ofString "zz", Str.ofString "cls", Str.ofString "k", Str.ofString "zzzzzzzz", Str.ofString "m"]
def spBox : Sp := fun vs H Q _ => ∃ (q m : Addr) (b : Nat) (lm : IL), vs = [.ref q, .ref m] ∧ Pen H q b ∧ b ≤ 70000 ∧ H m = some (.dK (DI lm)) ∧ Bd 400 lm ∧
  ∀ (p : Addr) (l : IL) (H' : Hp), Led q (b + 60) H H' → H p = none → H' p = some (.dK (DI l)) → (ks l).Nodup → (∀ k ∈ ks l, k ∈ menu0) → l.length ≤ 14 → Bd 400 l → Q (.ref p) H'
def spSum : Sp := fun vs H Q _ => ∃ a o m t l n, vs = [.ref a, .int o, .ref m, .int t] ∧ H a = some (.dK (DI l)) ∧ H m = some (.dK (DI n)) ∧ (ks l).Nodup ∧ (ks n).Nodup ∧ okL l ∧ okL n ∧ l.length ≤ 20 ∧ n.length ≤ 20 ∧ Bd 1000 l ∧ Bd 1000 n ∧ o.natAbs < 2 ^ 1000 ∧ t.natAbs < 2 ^ 1000 ∧
  ∀ p r H', H p = none → Same H H' → Rows H' p r → Can r → okL r → r.length ≤ l.length + n.length → (∀ k, vl r k = o * vl l k + t * vl n k) → Q (.ref p) H'
def spTold (C : Addr) : Sp := fun vs H Q _ => ∃ a l, vs = [.ref a] ∧ VA C H a l ∧ l.length ≤ 100 ∧ ∀ p H', H p = none → Same H H' → Rows H' p l → Q (.ref p) H'
theorem TxtV.d {mg : Str → Option Value} (T : TxtV mg) : TxtD mg := ⟨T.int, T.len, T.abs⟩
theorem TxtV.p {mg : Str → Option Value} (T : TxtV mg) : TxtP mg := ⟨T.list, T.len, T.range⟩
theorem pow_small {i : Int} (h : i.natAbs ≤ 10 ^ 100) : i.natAbs < 2 ^ 400 := Nat.lt_of_le_of_lt h (by decide +kernel)
section
variable {P : Program} {w : World} {K : PySem.W.Frag} {mg : Str → Option Value} {base : Heap}
theorem k_law_draw (V : VF K mg) : FnOk P w K mg base CX0 1 V.fLD V.dLD ["_law_pen_here", "_law_many"] spDraw := ok_law_draw V.F_law_draw V.t.d
theorem k_law_great (V : VF K mg) : FnOk P w K mg base CX0 2 V.fLG V.dLG ["_law_pen_here", "_law_most"] spGreat := ok_law_great V.F_law_great V.t.d V.t.p V.F_law_draw V.b_law_draw V.g_law_draw
theorem k_law_pick (V : VF K mg) : FnOk P w K mg base CX0 2 V.fLK V.dLK ["_law_pen_here", "_law_some"] spPick := ok_law_pick V.F_law_pick V.t.d V.t.p V.F_law_draw V.b_law_draw V.g_law_draw
theorem ok_law_whole (V : VF K mg) : FnOk P w K mg base CX0 3 V.fLW V.dLW ["_law_pen_here"] spWhole := by
  have G_law_draw := k_law_draw (P := P) (w := w) (base := base) V
  have G_law_great := k_law_great (P := P) (w := w) (base := base) V
  refine V.F_law_whole.ok sc_law_whole (fun vs H Q E h => ?_) (fun cdv A outer s H vs Q E hr h => ?_)
  · obtain ⟨q, b, rfl, _⟩ := h
    rfl
  · obtain ⟨q, b, rfl, hP, hb, k⟩ := h
    have hu := hu_of hr
    have T := V.t
    refine ⟨_, (pss_cons (ps_set (i := 1) sc_law_whole.nd rfl (Or.inl rfl) (pe_call G_law_draw (hr.mono (by decide)) (by rfl) V.g_law_draw V.F_law_draw.kp V.b_law_draw .nil pass0 (pa_cons (pv 0) (pa_cons pe_int pa_nil))))
      (pss_cons (ps_set (i := 2) sc_law_whole.nd rfl (Or.inl rfl) (pe_call G_law_great (hr.mono (by decide)) (by rfl) V.g_law_great V.F_law_great.kp V.b_law_great .nil pass0 (pa_cons (pv 0) (pa_cons pe_int pa_nil))))
      (pss_one (ps_ret (pe_ix ix_list (pe_lst (pa_cons pe_int (pa_cons (pe_op op_sub (pe_call G_law_draw (hr.mono (by decide)) (by rfl) V.g_law_draw V.F_law_draw.kp V.b_law_draw .nil pass0 (pa_cons (pv 0) (pa_cons pe_int pa_nil))) pe_int) (pa_cons (pv 2) (pa_cons (pe_op op_sub pe_int (pv 2)) pa_nil))))) (pv 1) (fun _ _ => rfl)))))), ?_⟩
    try dsimp only [cxOf]
    walk_at "hline"
    refine ⟨q, 4, b, rfl, hP, by omega, by decide, by decide, ?_⟩
    intro d H1 d0 d1 P1 t1
    walk_at "hx"
    walk_at "hline"
    refine ⟨q, 60, b + 1, rfl, P1, by omega, by decide, by decide, ?_⟩
    intro g H2 g1 P2 t2
    walk_at "hgo"
    refine ⟨q, 19, b + 1 + 2, rfl, P2, by omega, by decide, by decide, ?_⟩
    intro e H3 e0 e1 P3 t3
    walk_at "hgo"
    intro p np
    walk_at "hgo"
    obtain ⟨v, hv, ha⟩ := pick_at (xs := [L2.V.int 1, .int (e - 9), .int g, .int (0 - g)]) d0 d1
    refine g_ixL (SqL.of upd_same) ha ?_
    walk_at "hgo"
    have L : Led q (b + 4) H (upd H3 p (.lst [L2.V.int 1, .int (e - 9), .int g, .int (0 - g)])) := (Led.new ⟨P3, (t1.trans t2).trans t3⟩ np)
    have bg := pow_small g1
    have e9 : (e - 9).natAbs < 2 ^ 400 := Nat.lt_of_le_of_lt (show (e - 9).natAbs ≤ 100 by omega) (by decide +kernel)
    have one : (1 : Int).natAbs < 2 ^ 400 := by decide +kernel
    have ng : (0 - g).natAbs < 2 ^ 400 := by
      have : (0 - g).natAbs = g.natAbs := by omega
      rw [this]; exact bg
    simp only [List.mem_cons, List.not_mem_nil, or_false] at hv
    rcases hv with rfl | rfl | rfl | rfl
    · exact k _ _ one L
    · exact k _ _ e9 L
    · exact k _ _ bg L
    · exact k _ _ ng L
theorem ok_law_told (V : VF K mg) : FnOk P w K mg base CX0 3 V.fLT V.dLT ["_law_made"] (spTold V.C) := by
  have G_names := ok_names (P := P) (w := w) (base := base) V
  have G_item := (ok_item (P := P) (w := w) (base := base) V).raw V.b_item .nil
  refine V.F_law_told.ok sc_law_told (fun vs H Q E h => ?_) (fun cdv A outer s H vs Q E hr h => ?_)
  · obtain ⟨a, l, rfl, _⟩ := h
    rfl
  · obtain ⟨a, l, rfl, va, few, k⟩ := h
    have hu := hu_of hr
    have T := V.t
    refine ⟨_, (pss_one (ps_ret (pe_lc (own := [("_law_label", 1)]) (g := gName 1) rfl sc_law_told.nd (pi_tup (pe_prop (pv 0) V.c_V V.p_names G_names (hr.mono (by decide)) V.b_names .nil pass0 rfl)) (blkOk_by (own := [("_law_label", 1)]) (N := N_law_told) (sc := defScope s_law_told) (by decide +kernel)) (fun _ _ _ _ _ => pg_name (i := 1) sc_law_told.nd rfl (Or.inl rfl)) (fun _ _ _ _ _ => pts_nil) (fun _ _ _ _ _ => (pe_tup (pa_cons (pv 1) (pa_cons (ix_own V.O_item V.fn_item G_item (hr.mono (by decide)) pass0 (pv 0) (pv 1) (fun _ _ => rfl)) pa_nil))))))), ?_⟩
    try dsimp only [cxOf]
    obtain ⟨⟨d, dx, h1, h2⟩, cn, ok⟩ := id va
    walk_at "hgo"
    refine g_prop ?_
    walk_at "hx"
    refine ⟨a, dx, _, rfl, h1, a, l, rfl, va, ?_⟩
    intro tp ntp
    refine g_atT (SqT.of (upd_same (o := .tup ((ks l).map L2.V.str)))) fun D hD => ?_
    have ndp : D ≠ tp := fun e => by rw [e, upd_same] at hD; cases hD
    rw [upd_ne ndp] at hD
    refine lc_it (walk_tup (K := K) (xs := (ks l).map L2.V.str)) (fun i H' => H' tp = some (.tup ((ks l).map L2.V.str)) ∧ (∃ ts : List Addr, H' D = some (.lst (ts.map L2.V.ref)) ∧ Cells H' ts (l.take i)) ∧ Same H H') ?_ (fun _ _ _ z => SqT.of z.1) ?_ ?_
    · refine ⟨?_, ⟨[], upd_same, .nil⟩, ?_⟩
      · rw [upd_ne ndp.symm]; exact upd_same
      · exact same_trans (same_new ntp) (same_new (by rw [upd_ne ndp]; exact hD))
    · rintro i x H1 H2 hi ⟨p1, ⟨ts, p2, p2'⟩, p3⟩ ⟨rfl, hx⟩
      obtain ⟨y, hy, rfl⟩ := str_at hx
      have my : y ∈ ks l := List.mem_of_getElem? hy
      have hi2 : i < l.length := by rw [List.length_map, ks_len] at hi; exact hi
      walk_at "hgo"
      refine ⟨rfl, ?_⟩
      walk_at "hgo"
      refine ⟨a, rfl, (va.same p3).inst, a, l, y, d, dx, rfl, p3 _ _ h1, .inl (p3 _ _ h2), ok y my, ?_⟩
      walk_at "hgo"
      intro T1 nT
      have nDT : D ≠ T1 := ne_of_none p2 nT
      have sT := same_new (o := .tup [L2.V.str y, L2.V.int (vl l y)]) nT
      refine ⟨_, sT _ _ p2, ?_, ?_, ⟨ts ++ [T1], ?_, ?_⟩, ?_⟩
      · rw [List.length_map, p2'.len, List.length_take]
        exact Nat.lt_of_lt_of_le (show min i l.length < 1000 by omega) (by decide)
      · rw [upd_ne ndp.symm]; exact sT _ _ p1
      · rw [upd_same, List.map_append]; rfl
      · have e : l.take (i + 1) = l.take i ++ [(y, vl l y)] := by
          have : l[i]? = some (y, vl l y) := by
            have z : (ks l)[i]? = some y := hy
            unfold ks at z
            rw [List.getElem?_map] at z
            cases w : l[i]? with
            | none => rw [w] at z; cases z
            | some p =>
              rw [w] at z
              have z2 : p.1 = y := Option.some.inj z
              rw [← z2, vl_mem va.nd (List.mem_of_getElem? w)]
          rw [List.take_add_one, this]; rfl
        rw [e]
        refine Cells.past (sT _ _ p2) ((p2'.same sT).snoc (p := (y, vl l y)) upd_same)
      · intro x o z
        rw [upd_ne (ne_of_none z hD)]
        exact sT _ _ (p3 _ _ z)
    · rintro H1 ⟨p1, ⟨ts, p2, p2'⟩, p3⟩
      rw [List.length_map, ks_len, List.take_length] at p2'
      exact k D H1 hD p3 ⟨ts, p2, p2'⟩
end

theorem g_par {i j : Nat} {ta : TA} {D : Ends} {σ : L2.St} {H : Hp} (h : ta σ H fun vs H1 => ∃ v w, vs = [v, w] ∧ D.nx ((σ.set i (some v)).set j (some w)) H1) : tPar i j ta D σ H := h
theorem g_bm {K : PySem.W.Frag} {T : String} {r : L2.V → List L2.V → Hp → VK → Prop} {to : TE} {t : TA} {σ : L2.St} {H : Hp} {Q : VK} (h : to σ H fun x H1 => tyV K T x H1 ∧ t σ H1 fun xs H2 => r x xs H2 Q) : tBM K T r to t σ H Q := h
theorem menu_ok : ∀ x ∈ menu0, okS x = true := by decide +kernel
structure Fine (l : IL) (n : Nat) : Prop where
  nd : (ks l).Nodup
  mem : ∀ k ∈ ks l, k ∈ menu0
  len : l.length ≤ n
  bd : Bd 400 l
theorem Fine.put {l : IL} {n : Nat} {x : Str} {i : Int} (f : Fine l n) (hx : x ∈ menu0) (hi : i.natAbs < 2 ^ 400) : Fine (putI l x i) (n + 1) := by
  refine ⟨ks_put_nodup f.nd, fun k hk => ?_, ?_, fun k => ?_⟩
  · rcases ks_put_mem.mp hk with z | z
    · exact f.mem k z
    · rw [z]; exact hx
  · have := put_len (l := l) (k := x) (i := i)
    have := f.len
    omega
  · rw [vl_put]
    split
    · exact hi
    · exact f.bd k
theorem Fine.more {l : IL} {n n' : Nat} (f : Fine l n) (h : n ≤ n') : Fine l n' := ⟨f.nd, f.mem, Nat.le_trans f.len h, f.bd⟩
structure Boxed (q p mn : Addr) (c i : Nat) (H H' : Hp) : Prop where
  led : Led q c H H'
  ex : ∃ (l : IL) (names : List Str), H' p = some (.dK (DI l)) ∧ H' mn = some (.lst (names.map L2.V.str)) ∧ names.length = 8 - i ∧ (∀ x ∈ names, x ∈ menu0) ∧ Fine l (2 * i)
theorem erase_map {α β : Type} (f : α → β) : ∀ (l : List α) (j : Nat), (l.map f).eraseIdx j = (l.eraseIdx j).map f
  | [], _ => rfl
  | a :: r, 0 => rfl
  | a :: r, j + 1 => congrArg (f a :: ·) (erase_map f r j)
theorem Led.more {q : Addr} {b b' : Nat} {H H' : Hp} (l : Led q b H H') (h : b ≤ b') : Led q b' H H' := ⟨l.pen.more h, l.but⟩
theorem seq_nat {j n : Nat} (h : j < n) : seqIndex? (j : Int) n = some j := by
  unfold seqIndex?
  have h1 : ¬ ((j : Int) < 0) := by omega
  rw [if_neg h1]
  have h2 : (decide (0 ≤ (j : Int)) && decide ((j : Int) < (n : Int))) = true := by
    rw [Bool.and_eq_true]
    exact ⟨decide_eq_true (by omega), decide_eq_true (by omega)⟩
  rw [if_pos h2]
  rfl
section
variable {P : Program} {w : World} {K : PySem.W.Frag} {mg : Str → Option Value} {base : Heap}
set_option maxHeartbeats 8000000 in
theorem ok_law_box (V : VF K mg) : FnOk P w K mg base CX0 4 V.fLB V.dLB ["_law_pen_here", "_law_mate"] spBox := by
  have G_law_draw := k_law_draw (P := P) (w := w) (base := base) V
  have G_law_whole := ok_law_whole (P := P) (w := w) (base := base) V
  refine V.F_law_box.ok sc_law_box (fun vs H Q E h => ?_) (fun cdv A outer s H vs Q E hr h => ?_)
  · obtain ⟨q, m, b, lm, rfl, _⟩ := h
    rfl
  · obtain ⟨q, m, b, lm, rfl, hP, hb, hm, bm, k⟩ := h
    have hu := hu_of hr
    have T := V.t
    refine ⟨_, (pss_cons (ps_par (i := 2) (j := 3) (by rfl) sc_law_box.nd rfl rfl (by decide) rfl rfl (pa_cons pe_dnewK (pa_cons (pe_lst (pa_cons pe_str (pa_cons pe_str (pa_cons pe_str (pa_cons pe_str (pa_cons pe_str (pa_cons pe_str (pa_cons pe_str (pa_cons pe_str pa_nil))))))))) pa_nil)) (by rfl))
      (pss_cons (ps_for PassesOwn.never rfl (pi_range1 rfl T.range (pa_cons (pe_call G_law_draw (hr.mono (by decide)) (by rfl) V.g_law_draw V.F_law_draw.kp V.b_law_draw .nil pass0 (pa_cons (pv 0) (pa_cons pe_int pa_nil))) pa_nil)) (pg_name (i := 4) sc_law_box.nd rfl (Or.inl rfl)) (pss_cons (ps_set (i := 5) sc_law_box.nd rfl (Or.inl rfl) (pe_bm PySem.F.plainAttrs_list PySem.F.slot_list_pop PySem.F.type_list_pop mt_popAt (pv 3) (pa_cons (pe_call G_law_draw (hr.mono (by decide)) (by rfl) V.g_law_draw V.F_law_draw.kp V.b_law_draw .nil pass0 (pa_cons (pv 0) (pa_cons (pe_callB call_lenL (by rfl) T.len (by decide +kernel) (pa_cons (pv 3) pa_nil)) pa_nil))) pa_nil)))
      (pss_cons (ps_dput hu (pv 2) (pv 5) (pe_call G_law_whole (hr.mono (by decide)) (by rfl) V.g_law_whole V.F_law_whole.kp V.b_law_whole .nil pass0 (pa_cons (pv 0) pa_nil)) rfl)
      (pss_one (ps_if (PW.pt (pw_and (pt_cmp (pc_din hu (pv 5) (pv 1))) (pw_and1 (pt_cmpR op_eq (pe_call G_law_draw (hr.mono (by decide)) (by rfl) V.g_law_draw V.F_law_draw.kp V.b_law_draw .nil pass0 (pa_cons (pv 0) (pa_cons pe_int pa_nil))) pe_int (nomark _))))) (pss_one (ps_dput hu (pv 2) (pv 5) (pe_op op_sub pe_int (pe_dget hu (pv 1) (pv 5) (fun _ _ => rfl))) rfl)) pss_nil)))))
      (pss_one (ps_ret (pv 2))))), ?_⟩
    try dsimp only [cxOf]
    have nmq : m ≠ q := fun e => by
      obtain ⟨xs, z⟩ := hP.at
      rw [e, z] at hm
      cases hm
    refine g_seq ?_
    refine g_par ?_
    walk_at "hx"
    intro p np
    walk_at "hx"
    intro mn nmn0
    have nmp : mn ≠ p := fun e => by rw [e, upd_same] at nmn0; cases nmn0
    have nmn : H mn = none := by rw [upd_ne nmp] at nmn0; exact nmn0
    walk_at "hx"
    refine ⟨_, _, rfl, ?_⟩
    have B0 : Boxed q p mn b 0 H (upd (upd H p (.dK [])) mn (.lst (menu0.map L2.V.str))) := by
      refine ⟨⟨hP.same ?_, .of ?_⟩, [], menu0, ?_, upd_same, rfl, fun _ h => h, ⟨List.nodup_nil, fun _ h => (nomatch h), Nat.le_refl _, fun k => (show (0 : Int).natAbs < 2 ^ 400 by decide +kernel)⟩⟩
      · exact same_trans (same_new np) (same_new nmn0)
      · exact same_trans (same_new np) (same_new nmn0)
      · rw [upd_ne nmp.symm]; exact upd_same
    have npq : p ≠ q := hP.ne np
    have nmnq : mn ≠ q := hP.ne nmn
    walk_at "hx"
    walk_at "hline"
    refine ⟨q, 7, b, rfl, B0.led.pen, by omega, by decide, by decide, ?_⟩
    intro d H2 d0 d1 P2 t2
    obtain ⟨L1, l0, nm0, e1, e2, e3, e4, e5⟩ := B0
    have B1 : Boxed q p mn (b + 1) 0 H H2 := ⟨L1.draw P2 t2, l0, nm0, t2.st _ _ npq e1, t2.st _ _ nmnq e2, e3, e4, e5⟩
    clear L1 e1 e2 e3 e4 e5 t2 P2
    walk_at "hx"
    refine g_rng (by omega) (by omega) ?_
    refine for_range (n := d.toNat) (fun i σ' H' => (∃ y z, σ' = [some (.ref q), some (.ref m), some (.ref p), some (.ref mn), y, z]) ∧ Boxed q p mn (b + 1 + 8 * i) i H H') ⟨⟨none, none, rfl⟩, B1⟩ ?_ ?_
    · rintro i σ' H3 hi ⟨⟨y, z, rfl⟩, ⟨L3, l, names, e1, e2, e3, e4, e5⟩⟩
      have i6 : i ≤ 6 := by omega
      walk_at "hx"
      refine g_seq ?_
      walk_at "hx"
      refine g_bm ?_
      walk_at "hx"
      refine ⟨.inl ⟨rfl, _, SqL.of e2⟩, ?_⟩
      walk_at "hx"
      refine ⟨q, ((names.map L2.V.str).length : Int), _, rfl, L3.pen, by omega, by rw [List.length_map]; omega, by rw [List.length_map]; omega, ?_⟩
      intro e H4 e0 e1' P4 t4
      walk_at "hx"
      obtain ⟨j, hj⟩ : ∃ j : Nat, e = (j : Int) := ⟨e.toNat, by omega⟩
      subst hj
      have jl : j < names.length := by rw [List.length_map] at e1'; omega
      obtain ⟨x, hx⟩ : ∃ x, names[j]? = some x := ⟨names[j], List.getElem?_eq_getElem jl⟩
      have okx : x ∈ menu0 := e4 x (List.mem_of_getElem? hx)
      have q2 := t4.st _ _ nmnq e2
      have q1 := t4.st _ _ npq e1
      have L4 := L3.draw P4 t4
      have er : (names.map L2.V.str).eraseIdx j = (names.eraseIdx j).map L2.V.str := erase_map _ _ _
      refine ⟨mn, names.map L2.V.str, (j : Int), j, .str x, rfl, rfl, q2, by omega, by omega, seq_nat (by rw [List.length_map]; exact jl), by rw [List.getElem?_map, hx]; rfl, ?_⟩
      rw [er]
      have L5 : Led q _ H (upd H4 mn (.lst ((names.eraseIdx j).map L2.V.str))) := L4.put hP nmn
      have f2 : upd H4 mn (.lst ((names.eraseIdx j).map L2.V.str)) mn = some (.lst ((names.eraseIdx j).map L2.V.str)) := upd_same
      have f1 : upd H4 mn (.lst ((names.eraseIdx j).map L2.V.str)) p = some (.dK (DI l)) := by rw [upd_ne nmp.symm]; exact q1
      generalize upd H4 mn (.lst ((names.eraseIdx j).map L2.V.str)) = H5 at L5 f1 f2 ⊢
      have fl : (names.eraseIdx j).length = 8 - (i + 1) := by rw [List.length_eraseIdx_of_lt jl]; omega
      have fo : ∀ y ∈ names.eraseIdx j, y ∈ menu0 := fun y hy => e4 y (List.mem_of_mem_eraseIdx hy)
      clear L3 L4 q1 q2 e1 e2 er t4 P4
      walk_at "hx"
      refine g_seq ?_
      refine g_dput ?_
      walk_at "hx"
      refine ⟨q, _, rfl, L5.pen, by omega, ?_⟩
      intro v H6 bv L6
      walk_at "hx"
      have g1 := L6.but.st _ _ npq f1
      have g2 := L6.but.st _ _ nmnq f2
      have L7 : Led q _ H H6 := ⟨L6.pen, L5.but.trans L6.but⟩
      refine ⟨p, _, rfl, .inl ⟨DI l, Sum.inr x, g1, rfl, ?_, rfl⟩, ?_⟩
      · rw [DI_len]
        have := e5.len
        exact Nat.lt_of_lt_of_le (show l.length < 1000 by omega) (by decide)
      rw [DI_put]
      have F1 := e5.put okx bv
      have L8 : Led q _ H (upd H6 p (.dK (DI (putI l x v)))) := L7.put hP np
      have k1 : upd H6 p (.dK (DI (putI l x v))) p = some (.dK (DI (putI l x v))) := upd_same
      have k2 : upd H6 p (.dK (DI (putI l x v))) mn = some (.lst ((names.eraseIdx j).map L2.V.str)) := by rw [upd_ne nmp]; exact g2
      generalize upd H6 p (.dK (DI (putI l x v))) = H8 at L8 k1 k2 ⊢
      clear L7 g1 g2 L6 L5 f1 f2
      have npm : p ≠ m := fun w => by rw [w, hm] at np; cases np
      walk_at "hx"
      refine g_din ?_
      walk_at "hx"
      have hm8 := L8.but.st _ _ nmq hm
      refine ⟨m, _, rfl, rd_get (.inl hm8), ?_⟩
      walk_at "hx"
      cases hl : lm.lookup x with
      | none =>
        walk_at "hx"
        refine ⟨⟨_, _, rfl⟩, L8.more (by omega), _, _, k1, k2, fl, fo, F1.more (by omega)⟩
      | some w0 =>
        have mx : x ∈ ks lm := look_mem.mp (by rw [hl]; rfl)
        walk_at "hx"
        refine ⟨q, 2, _, rfl, L8.pen, by omega, by decide, by decide, ?_⟩
        intro e9 H9 _ _ P9 t9
        walk_at "hx"
        have L9 := L8.draw P9 t9
        have k1' := t9.st _ _ npq k1
        have k2' := t9.st _ _ nmnq k2
        refine ite2 (fun c => ?_) (fun c => ?_)
        · walk_at "hx"
          refine g_dput ?_
          walk_at "hx"
          refine g_dget ?_
          walk_at "hx"
          refine ⟨m, _, rfl, rd_at (.inl (t9.st _ _ nmq hm8)) mx, ?_⟩
          walk_at "hx"
          refine ⟨p, _, rfl, .inl ⟨_, Sum.inr x, k1', rfl, ?_, rfl⟩, ?_⟩
          · rw [DI_len]
            have := F1.len
            exact Nat.lt_of_lt_of_le (show (putI l x v).length < 1000 by omega) (by decide)
          rw [DI_put]
          walk_at "hx"
          have nb : (0 - vl lm x).natAbs < 2 ^ 400 := by
            have h1 := bm x
            have h2 : (0 - vl lm x).natAbs = (vl lm x).natAbs := by omega
            rw [h2]; exact h1
          refine ⟨⟨_, _, rfl⟩, (L9.put hP np).more (by omega), _, _, upd_same, ?_, fl, fo, (F1.put okx nb).more (by omega)⟩
          rw [upd_ne nmp]; exact k2'
        · walk_at "hx"
          refine ⟨⟨_, _, rfl⟩, L9.more (by omega), _, _, k1', k2', fl, fo, F1.more (by omega)⟩
    · rintro σ' H3 ⟨⟨y, z, rfl⟩, ⟨L3, l, names, e1, e2, e3, e4, e5⟩⟩
      walk_at "hgo"
      have i6 : d.toNat ≤ 6 := by omega
      exact k p l H3 (L3.more (by omega)) np e1 e5.nd e5.mem (Nat.le_trans e5.len (by omega)) e5.bd
end

/-- the law's own number -/
def sumF (o t : Int) (l n : IL) (k : Str) : Int := o * vl l k + t * vl n k
theorem dikeys (l : IL) : ((DI l).map fun kv => kV kv.1) = (ks l).map L2.V.str := by unfold DI ks; rw [List.map_map, List.map_map]; rfl
theorem sum_bd {o t : Int} {l n : IL} (bl : Bd 1000 l) (k : Str) (bo : o.natAbs < 2 ^ 1000) : CMulW o (vl l k) := wide_mul bo (bl k) (by decide) (by decide) (by decide)
theorem rRep_mono {x y f : L2.V} {H : Hp} {Q Q' : VK} (i : ∀ v H', Q v H' → Q' v H') (h : rRep x y H fun z H2 => rCat f z H2 Q) : rRep x y H fun z H2 => rCat f z H2 Q' := by
  obtain ⟨l, k, xs, e1, e2, e3, e4, e5, e6, q⟩ := h
  refine ⟨l, k, xs, e1, e2, e3, e4, e5, e6, fun p hp => ?_⟩
  obtain ⟨a, b, zs, ws, g1, g2, g3, g4, g5, q2⟩ := q p hp
  exact ⟨a, b, zs, ws, g1, g2, g3, g4, g5, fun r hr => i _ _ (q2 r hr)⟩
section
variable {P : Program} {w : World} {K : PySem.W.Frag} {mg : Str → Option Value} {base : Heap}
set_option maxHeartbeats 8000000 in
theorem ok_law_sum (V : VF K mg) : FnOk P w K mg base CX0 1 V.fLS V.dLS ["_law_box_here", "_law_often", "_law_mate", "_law_times"] spSum := by
  refine V.F_law_sum.ok sc_law_sum (fun vs H Q E h => ?_) (fun cdv A outer s H vs Q E hr h => ?_)
  · obtain ⟨a, o, m, t, l, n, rfl, _⟩ := h
    rfl
  · obtain ⟨a, o, m, t, l, n, rfl, ha, hm, nl, nn, ol, on, fl, fn, bl, bn, bo, bt, k⟩ := h
    have hu := hu_of hr
    have T := V.t
    refine ⟨_, (pss_cons (ps_set (i := 4) sc_law_sum.nd rfl (Or.inl rfl) (pe_lst pa_nil))
      (pss_cons (ps_for PassesOwn.never rfl (pi_list (pe_callB (TsX.call_sortedT rfl) (by rfl) T.sorted (by decide +kernel) (pa_cons (pe_callTy (TsX.call_setT rfl) (by rfl) T.set (by decide +kernel) (pa_cons (pe_op op_cat (pe_callTy (call_listD rfl) (by rfl) T.list (by decide +kernel) (pa_cons (pv 0) pa_nil)) (pe_callTy (call_listD rfl) (by rfl) T.list (by decide +kernel) (pa_cons (pv 2) pa_nil))) pa_nil)) pa_nil))) (pg_name (i := 5) sc_law_sum.nd rfl (Or.inl rfl)) (pss_cons (ps_set (i := 6) sc_law_sum.nd rfl (Or.inl rfl) (pe_op op_add (pe_op op_mulW (pv 1) (pe_dget2 hu (pv 0) (pv 5) pe_int ⟨rfl, rfl, rfl, rfl⟩)) (pe_op op_mulW (pv 3) (pe_dget2 hu (pv 2) (pv 5) pe_int ⟨rfl, rfl, rfl, rfl⟩))))
      (pss_one (ps_set (i := 4) sc_law_sum.nd rfl (Or.inl rfl) (pe_op op_cat (pv 4) (pe_op op_rep (pe_lst (pa_cons (pe_tup (pa_cons (pv 5) (pa_cons (pv 6) pa_nil))) pa_nil)) (pe_callTy call_intB (by rfl) T.int (by decide +kernel) (pa_cons (pe_cmpR op_ne (pv 6) pe_int (nomark _)) pa_nil))))))))
      (pss_one (ps_ret (pv 4))))), ?_⟩
    try dsimp only [cxOf]
    walk_at "hline"
    intro f0 nf0
    have s0 := same_new (o := .lst []) nf0
    have r0 : Rows (upd H f0 (.lst [])) f0 [] := ⟨[], upd_same, .nil⟩
    have nf : H f0 = none := nf0
    generalize upd H f0 (.lst []) = H0 at s0 r0 ⊢
    walk_at "hx"
    refine g_seq ?_
    walk_at "hx"
    refine ⟨a, DI l, rfl, .inl (s0 _ _ ha), ?_⟩
    intro p1 n1
    rw [dikeys]
    have s1 := same_new (o := .lst ((ks l).map L2.V.str)) n1
    have q1 : upd H0 p1 (.lst ((ks l).map L2.V.str)) p1 = some (.lst ((ks l).map L2.V.str)) := upd_same
    generalize upd H0 p1 (.lst ((ks l).map L2.V.str)) = H1 at s1 q1 ⊢
    replace r0 := r0.same s1
    replace s0 := same_trans s0 s1
    walk_at "hx"
    refine ⟨m, DI n, rfl, .inl (s0 _ _ hm), ?_⟩
    intro p2 n2
    rw [dikeys]
    have s2 := same_new (o := .lst ((ks n).map L2.V.str)) n2
    have q2 : upd H1 p2 (.lst ((ks n).map L2.V.str)) p2 = some (.lst ((ks n).map L2.V.str)) := upd_same
    generalize upd H1 p2 (.lst ((ks n).map L2.V.str)) = H2 at s2 q2 ⊢
    replace q1 := s2 _ _ q1
    replace r0 := r0.same s2
    replace s0 := same_trans s0 s2
    walk_at "hx"
    refine g_cat q1 q2 ?_ ?_
    · rw [List.length_map, List.length_map, ks_len, ks_len]
      exact Nat.le_trans (show l.length + n.length ≤ 1000 by omega) (by decide)
    intro p3 n3
    rw [← List.map_append]
    have s3 := same_new (o := .lst ((ks l ++ ks n).map L2.V.str)) n3
    have q3 : upd H2 p3 (.lst ((ks l ++ ks n).map L2.V.str)) p3 = some (.lst ((ks l ++ ks n).map L2.V.str)) := upd_same
    generalize upd H2 p3 (.lst ((ks l ++ ks n).map L2.V.str)) = H3 at s3 q3 ⊢
    replace r0 := r0.same s3
    replace s0 := same_trans s0 s3
    have l3 : (ks l ++ ks n).length = l.length + n.length := by rw [List.length_append, ks_len, ks_len]
    walk_at "hx"
    refine ⟨p3, ks l ++ ks n, rfl, SqL.of q3, by omega, ?_⟩
    intro p4 n4
    have s4 := same_new (o := TsX.SetT P w p4 (TsX.allT (ks l ++ ks n))) n4
    have q4 : upd H3 p4 (TsX.SetT P w p4 (TsX.allT (ks l ++ ks n))) p4 = some (TsX.SetT P w p4 (TsX.allT (ks l ++ ks n))) := upd_same
    generalize upd H3 p4 (TsX.SetT P w p4 (TsX.allT (ks l ++ ks n))) = H4 at s4 q4 ⊢
    replace r0 := r0.same s4
    replace s0 := same_trans s0 s4
    walk_at "hx"
    have l4 := TsX.allT_len (ks l ++ ks n)
    refine ⟨p4, TsX.allT (ks l ++ ks n), rfl, q4, TsX.allT_nodup _, by omega, ?_⟩
    intro ys p5 perm srt n5
    have s5 := same_new (o := .lst (ys.map L2.V.str)) n5
    have q5 : upd H4 p5 (.lst (ys.map L2.V.str)) p5 = some (.lst (ys.map L2.V.str)) := upd_same
    generalize upd H4 p5 (.lst (ys.map L2.V.str)) = H5 at s5 q5 ⊢
    replace r0 := r0.same s5
    replace s0 := same_trans s0 s5
    clear s1 s2 s3 s4 s5 q1 q2 q3 q4
    have ny : ys.Nodup := perm.nodup_iff.mpr (TsX.allT_nodup _)
    have ymem : ∀ x, x ∈ ys ↔ x ∈ ks l ∨ x ∈ ks n := fun x => by rw [perm.mem_iff, TsX.allT_mem, List.mem_append]
    have ly : ys.length ≤ l.length + n.length := by rw [perm.length_eq]; omega
    have asc := sorted_pw srt ny
    walk_at "hx"
    refine g_atL (SqL.of q5) ?_
    refine for_it (walk_list (K := K) (xs := ys.map L2.V.str)) (fun i σ' H' => ∃ f y z, σ' = [some (.ref a), some (.int o), some (.ref m), some (.int t), some (.ref f), y, z] ∧ H f = none ∧ Rows H' f (mk (ys.take i) (sumF o t l n)) ∧ H' p5 = some (.lst (ys.map L2.V.str)) ∧ Same H H') ⟨f0, none, none, rfl, nf, r0, q5, s0⟩ (fun _ _ _ _ z => by obtain ⟨f, y, z, _, _, _, q, _⟩ := z; exact SqL.of q) ?_ ?_
    · rintro i x σ' H6 H6' hi ⟨f, y, z, rfl, nf', ⟨ts, rf, rc⟩, q6, s6⟩ ⟨rfl, hx⟩
      obtain ⟨x, hy, rfl⟩ := str_at hx
      walk_at "hx"
      refine g_seq ?_
      walk_at "hx"
      refine g_dget2 ?_
      walk_at "hx"
      refine ⟨a, rfl, .inl ⟨_, .inl (s6 _ _ ha)⟩, ?_⟩
      walk_at "hx"
      refine ⟨_, rd_get (.inl (s6 _ _ ha)), ?_⟩
      rw [get0]
      refine g_I (sum_bd bl x bo (t := t) (n := n)) ?_
      walk_at "hx"
      refine g_dget2 ?_
      walk_at "hx"
      refine ⟨m, rfl, .inl ⟨_, .inl (s6 _ _ hm)⟩, ?_⟩
      walk_at "hx"
      refine ⟨_, rd_get (.inl (s6 _ _ hm)), ?_⟩
      rw [get0]
      refine g_I (sum_bd bn x bt (t := t) (n := n)) ?_
      walk_at "hx"
      intro T1 nT
      have sT := same_new (o := .tup [L2.V.str x, L2.V.int (sumF o t l n x)]) nT
      have qT : upd H6' T1 (.tup [L2.V.str x, L2.V.int (sumF o t l n x)]) T1 = some (.tup [L2.V.str x, L2.V.int (sumF o t l n x)]) := upd_same
      show tNil _ (upd H6' T1 (.tup [L2.V.str x, L2.V.int (sumF o t l n x)])) _
      generalize upd H6' T1 (.tup [L2.V.str x, L2.V.int (sumF o t l n x)]) = H7 at sT qT ⊢
      walk_at "hx"
      intro L nL
      have sL := same_new (o := .lst [L2.V.ref T1]) nL
      have qL : upd H7 L (.lst [L2.V.ref T1]) L = some (.lst [L2.V.ref T1]) := upd_same
      generalize upd H7 L (.lst [L2.V.ref T1]) = H8 at sL qL ⊢
      have s8 := same_trans sT sL
      walk_at "hx"
      have key : ∀ (c : Int) (zs : List Addr), 0 ≤ c → c ≤ 1 → (List.replicate c.toNat [L2.V.ref T1]).flatten = zs.map L2.V.ref → zs.length ≤ 1 → Cells H8 (ts ++ zs) (mk (ys.take (i + 1)) (sumF o t l n)) →
          rRep (L2.V.ref L) (.int c) H8 fun y_2 H2 => rCat (L2.V.ref f) y_2 H2 fun x_1 H1 => ∃ p, x_1 = .ref p ∧ H p = none ∧ Rows H1 p (mk (ys.take (i + 1)) (sumF o t l n)) ∧ H1 p5 = some (.lst (ys.map L2.V.str)) ∧ Same H H1 := by
        intro c zs c0 c1 ez lz cz
        refine g_rep qL (by omega) (by omega) ?_ ?_
        · show 1 * c.toNat ≤ sizeLine
          exact Nat.le_trans (show 1 * c.toNat ≤ 1000 by omega) (by decide)
        intro R nR
        rw [ez]
        have sR := same_new (o := .lst (zs.map L2.V.ref)) nR
        have qR : upd H8 R (.lst (zs.map L2.V.ref)) R = some (.lst (zs.map L2.V.ref)) := upd_same
        generalize upd H8 R (.lst (zs.map L2.V.ref)) = H9 at sR qR ⊢
        have s9 := same_trans s8 sR
        refine g_cat (s9 _ _ rf) qR ?_ ?_
        · rw [List.length_map, List.length_map, rc.len]
          have h1 := mk_len (ys.take i) (sumF o t l n)
          have h2 : (ys.take i).length ≤ ys.length := by rw [List.length_take]; omega
          exact Nat.le_trans (show (mk (ys.take i) (sumF o t l n)).length + zs.length ≤ 1000 by omega) (by decide)
        intro p np
        have sp := same_new (o := .lst (ts.map L2.V.ref ++ zs.map L2.V.ref)) np
        refine ⟨p, rfl, none_back s6 (none_back s9 np), ⟨ts ++ zs, ?_, (cz.same sR).same sp⟩, sp _ _ (s9 _ _ q6), same_trans s6 (same_trans s9 sp)⟩
        rw [upd_same, List.map_append]
      have fin : rRep (L2.V.ref L) (.int (if (!decide (L2.V.int (sumF o t l n x) = L2.V.int 0)) = true then 1 else 0)) H8 fun y_2 H2 => rCat (L2.V.ref f) y_2 H2 fun x_1 H1 => ∃ p, x_1 = .ref p ∧ H p = none ∧ Rows H1 p (mk (ys.take (i + 1)) (sumF o t l n)) ∧ H1 p5 = some (.lst (ys.map L2.V.str)) ∧ Same H H1 := by
        by_cases z : sumF o t l n x = 0
        · have e : (if (!decide (L2.V.int (sumF o t l n x) = L2.V.int 0)) = true then (1 : Int) else 0) = 0 := by simp [z]
          rw [e]
          refine key 0 [] (by omega) (by omega) rfl (by decide) ?_
          rw [List.append_nil, mk_skip hy z]
          exact rc.same s8
        · have e : (if (!decide (L2.V.int (sumF o t l n x) = L2.V.int 0)) = true then (1 : Int) else 0) = 1 := by simp [z]
          rw [e]
          refine key 1 [T1] (by omega) (by omega) rfl (Nat.le_refl 1) ?_
          have e2 : mk (ys.take (i + 1)) (sumF o t l n) = mk (ys.take i) (sumF o t l n) ++ [(x, sumF o t l n x)] := by rw [take_snoc hy, mk_snoc, if_pos z]
          rw [e2]
          exact (rc.same s8).snoc (p := (x, sumF o t l n x)) (sL _ _ qT)
      refine rRep_mono ?_ fin
      rintro v1 H9 ⟨p, rfl, np, rp, qp, sp⟩
      walk_at "hx"
      exact ⟨p, _, _, rfl, np, rp, qp, sp⟩
    · rintro σ' H6 ⟨f, y, z, rfl, nf', r6, q6, s6⟩
      walk_at "hgo"
      rw [List.length_map, List.take_length] at r6
      refine k f _ H6 nf' s6 r6 (can_mk asc) (fun x hx => ?_) (Nat.le_trans (mk_len _ _) ly) fun x => ?_
      · rw [ks_mk, List.mem_filter] at hx
        rcases (ymem x).mp hx.1 with z | z
        · exact ol x z
        · exact on x z
      · rw [vl_mk ny]
        split
        · rfl
        · rename_i q
          have q' : ¬ (x ∈ ks l ∨ x ∈ ks n) := fun z => q ((ymem x).mpr z)
          rw [vl_none (fun z => q' (.inl z)), vl_none (fun z => q' (.inr z))]
          simp
end

/-- rows that can be shown -/
structure Shw (r : IL) : Prop where
  ent : ∀ p ∈ r, okS p.1 = true ∧ p.2.natAbs < 2 ^ 422
  len : r.length ≤ 8
def tpD (r : IL) : List PyData := r.map fun p => .tuple [.str p.1, .int p.2]
theorem log_lt {i : Int} (h : i.natAbs < 2 ^ 422) : i.natAbs.log2 < 422 := PySem.Flt.log2_lt_of (by decide) h
theorem tp_all : ∀ {r : IL}, (∀ p ∈ r, okS p.1 = true ∧ p.2.natAbs < 2 ^ 422) → PyData.showableAll (tpD r) = true ∧ PyData.hasDictAll (tpD r) = false ∧ PyData.depthAll (tpD r) ≤ 1 ∧ PyData.canLayAll0 (tpD r) = true ∧ PyData.intsShortAll 423 (tpD r) = true ∧ PyData.weightAll (tpD r) ≤ r.length * 435
  | [], _ => by refine ⟨rfl, rfl, Nat.zero_le _, rfl, rfl, Nat.zero_le _⟩
  | p :: r, h => by
    obtain ⟨h1, h2⟩ := h p List.mem_cons_self
    obtain ⟨a, b, c, d, e, f⟩ := tp_all (r := r) fun q hq => h q (List.mem_cons_of_mem _ hq)
    have lg := log_lt h2
    have sl := okS_len h1
    have so := okS_strOk h1
    have tl : (Str.ofString (toString p.2)).length ≤ 423 := by
      rw [PySem.ofString_length]
      exact int_text_length_le (by decide) lg
    have e0 : tpD (p :: r) = .tuple [.str p.1, .int p.2] :: tpD r := rfl
    have sz : p.1.cps.size = p.1.length := rfl
    rw [e0]
    refine ⟨?_, ?_, ?_, ?_, ?_, ?_⟩
    · simp only [PyData.showableAll, PyData.showable, a, Bool.and_true, Bool.true_and]
      exact decide_eq_true (by omega)
    · simp only [PyData.hasDictAll, PyData.hasDict, b, Bool.or_false]
    · simp only [PyData.depthAll, PyData.depth]; omega
    · simp only [PyData.canLayAll0, PyData.canLay0, d, so, Bool.and_true]
    · simp only [PyData.intsShortAll, PyData.intsShort, e, Bool.and_true, Bool.true_and]
      exact decide_eq_true tl
    · simp only [PyData.weightAll, PyData.weight, List.length_cons]
      have w1 : (if (p.2 == 0) = true then 0 else p.2.natAbs.log2 + 1) ≤ 422 := by split <;> omega
      rw [sz]
      omega
theorem pd_shaped {r : IL} (h : Shw r) : SeqAt.shaped (pd r) = true := by
  obtain ⟨a, b, c, d, e, f⟩ := tp_all h.ent
  show SeqAt.shaped (.list (tpD r)) = true
  have h1 : PyData.canLay0 (.list (tpD r)) = true := by simp only [PyData.canLay0]; exact d
  have h2 : PyData.depth (.list (tpD r)) ≤ 64 := by simp only [PyData.depth]; omega
  unfold SeqAt.shaped
  rw [h1, Bool.true_and]
  exact decide_eq_true h2
theorem pds_all : ∀ {rs : List IL}, (∀ r ∈ rs, Shw r) → PyData.showableAll (rs.map pd) = true ∧ PyData.hasDictAll (rs.map pd) = false ∧ PyData.depthAll (rs.map pd) ≤ 2 ∧ PyData.canLayAll0 (rs.map pd) = true ∧ PyData.intsShortAll 423 (rs.map pd) = true ∧ PyData.weightAll (rs.map pd) ≤ rs.length * 3485
  | [], _ => by refine ⟨rfl, rfl, Nat.zero_le _, rfl, rfl, Nat.zero_le _⟩
  | r :: rs, h => by
    obtain ⟨a, b, c, d, e, f⟩ := tp_all (h r List.mem_cons_self).ent
    have ln := (h r List.mem_cons_self).len
    obtain ⟨a', b', c', d', e', f'⟩ := pds_all (rs := rs) fun q hq => h q (List.mem_cons_of_mem _ hq)
    have e0 : (r :: rs).map pd = .list (tpD r) :: rs.map pd := rfl
    rw [e0]
    refine ⟨?_, ?_, ?_, ?_, ?_, ?_⟩
    · simp only [PyData.showableAll, PyData.showable, a, a', Bool.and_true]
    · simp only [PyData.hasDictAll, PyData.hasDict, b, b', Bool.or_false]
    · simp only [PyData.depthAll, PyData.depth]; omega
    · simp only [PyData.canLayAll0, PyData.canLay0, d, d', Bool.and_true]
    · simp only [PyData.intsShortAll, PyData.intsShort, e, e', Bool.and_true]
    · simp only [PyData.weightAll, PyData.weight, List.length_cons]
      omega
theorem pds_show {rs : List IL} (h : ∀ r ∈ rs, Shw r) (n : rs.length ≤ 7) : (PyData.list (rs.map pd)).showable = true ∧ (PyData.list (rs.map pd)).hasDict = false ∧ (PyData.list (rs.map pd)).depth ≤ 40 ∧ (PyData.list (rs.map pd)).shown.length ≤ sizeLine := by
  obtain ⟨a, b, c, d, e, f⟩ := pds_all h
  refine ⟨by simp only [PyData.showable]; exact a, by simp only [PyData.hasDict]; exact b, by simp only [PyData.depth]; omega, ?_⟩
  have l := PyData.shown_le 423 (by decide) (.list (rs.map pd)) (PyData.leavesShort_of_canLay0 423 _ (by simp only [PyData.canLay0]; exact d) (by simp only [PyData.intsShort]; exact e))
  have w : (PyData.list (rs.map pd)).weight ≤ 24395 := by simp only [PyData.weight]; omega
  rw [sizeLine_eq]
  omega
theorem eqv_tp : ∀ l m : IL, PyData.eqvAll (tpD l) (tpD m) = decide (l = m)
  | [], [] => by simp [tpD, PyData.eqvAll]
  | [], q :: s => by simp [tpD, PyData.eqvAll]
  | p :: r, [] => by simp [tpD, PyData.eqvAll]
  | p :: r, q :: s => by
    have ih := eqv_tp r s
    have e1 : tpD (p :: r) = .tuple [.str p.1, .int p.2] :: tpD r := rfl
    have e2 : tpD (q :: s) = .tuple [.str q.1, .int q.2] :: tpD s := rfl
    rw [e1, e2]
    simp only [PyData.eqvAll, PyData.eqv, ih, Bool.and_true]
    rw [Bool.eq_iff_iff]
    simp only [Bool.and_eq_true, beq_iff_eq, decide_eq_true_eq, List.cons.injEq]
    constructor
    · rintro ⟨⟨a, b⟩, c⟩
      exact ⟨Prod.ext a b, c⟩
    · rintro ⟨a, c⟩
      rw [a]
      exact ⟨⟨rfl, rfl⟩, c⟩
theorem eqv_pd (l m : IL) : PyData.eqv (pd l) (pd m) = decide (l = m) := by
  show PyData.eqv (.list (tpD l)) (.list (tpD m)) = _
  simp only [PyData.eqv]
  exact eqv_tp l m
/-! sums over names -/
theorem sum_one {M : List Str} {x : Str} (c : Int) (n : M.Nodup) (h : x ∈ M) : (M.map fun k => if k = x then c else 0).sum = c := by
  induction M with
  | nil => cases h
  | cons y r ih =>
    obtain ⟨n1, n2⟩ := List.nodup_cons.mp n
    rw [List.map_cons, List.sum_cons]
    rcases List.mem_cons.mp h with e | e
    · subst e
      rw [if_pos rfl]
      have z : (r.map fun k => if k = x then c else 0) = r.map fun _ => 0 := List.map_congr_left fun k hk => if_neg fun (e : k = x) => n1 (by rw [← e]; exact hk)
      rw [z]
      have z2 : ∀ r : List Str, (r.map fun _ => (0 : Int)).sum = 0 := fun r => by
        induction r with
        | nil => rfl
        | cons a b ih => rw [List.map_cons, List.sum_cons, ih]; rfl
      rw [z2]
      omega
    · rw [if_neg (fun (q : y = x) => n1 (by rw [q]; exact e)), ih n2 e]
      omega
theorem sum_add (M : List Str) (f g : Str → Int) : (M.map fun k => f k + g k).sum = (M.map f).sum + (M.map g).sum := by
  induction M with
  | nil => rfl
  | cons y r ih => rw [List.map_cons, List.map_cons, List.map_cons, List.sum_cons, List.sum_cons, List.sum_cons, ih]; omega
theorem zeros : ∀ r : List Str, (r.map fun _ => (0 : Int)).sum = 0
  | [] => rfl
  | a :: b => by rw [List.map_cons, List.sum_cons, zeros b]; rfl
theorem sum_in {M : List Str} (f : Str → Int) (nM : M.Nodup) : ∀ {S : List Str}, S.Nodup → (∀ x ∈ S, x ∈ M) → (S.map f).sum = (M.map fun k => if k ∈ S then f k else 0).sum
  | [], _, _ => by
    have : (M.map fun k => if k ∈ ([] : List Str) then f k else 0) = M.map fun _ => 0 := List.map_congr_left fun k _ => if_neg List.not_mem_nil
    rw [this]
    exact (zeros M).symm
  | x :: r, n, h => by
    obtain ⟨n1, n2⟩ := List.nodup_cons.mp n
    have ih := sum_in f nM n2 fun y hy => h y (List.mem_cons_of_mem _ hy)
    rw [List.map_cons, List.sum_cons, ih, ← sum_one (f x) nM (h x List.mem_cons_self), ← sum_add]
    congr 1
    refine List.map_congr_left fun k _ => ?_
    by_cases e : k = x
    · subst e
      rw [if_pos rfl, if_neg n1, if_pos List.mem_cons_self]
      omega
    · rw [if_neg e]
      by_cases q : k ∈ r
      · rw [if_pos q, if_pos (List.mem_cons_of_mem _ q)]; omega
      · rw [if_neg q, if_neg (fun z => (List.mem_cons.mp z).elim e q)]; rfl
theorem menu_nd : menu0.Nodup := by decide +kernel
/-- a sum over names of which all others give 0 is the sum over the menu -/
theorem sum_menu {S : List Str} (f : Str → Int) (n : S.Nodup) (h : ∀ x ∈ S, x ∈ menu0) (z : ∀ x, x ∉ S → f x = 0) : (S.map f).sum = (menu0.map f).sum := by
  rw [sum_in f menu_nd n h]
  congr 1
  refine List.map_congr_left fun k _ => ?_
  split
  · rfl
  · rename_i q
    exact (z k q).symm
theorem sum_lt {b : Nat} : ∀ {xs : List Int}, (∀ x ∈ xs, x.natAbs < 2 ^ b) → xs.sum.natAbs ≤ xs.length * 2 ^ b
  | [], _ => by show (0 : Int).natAbs ≤ _; exact Nat.zero_le _
  | x :: r, h => by
    have ih := sum_lt (xs := r) fun y hy => h y (List.mem_cons_of_mem _ hy)
    have hx := h x List.mem_cons_self
    rw [List.sum_cons, List.length_cons, Nat.add_mul, Nat.one_mul]
    have := Int.natAbs_add_le x r.sum
    omega
theorem dot_lt {f g : Str → Int} (hf : ∀ k, (f k).natAbs < 2 ^ 400) (hg : ∀ k, (g k).natAbs < 2 ^ 400) : ((menu0.map fun k => f k * g k).sum).natAbs.log2 < 1000 := by
  have h := sum_lt (b := 800) (xs := menu0.map fun k => f k * g k) fun x hx => by
    obtain ⟨k, _, rfl⟩ := List.mem_map.mp hx
    exact wide_lt (a := 400) (b := 400) (hf k) (hg k)
  rw [List.length_map] at h
  have e : menu0.length = 8 := rfl
  rw [e] at h
  refine PySem.Flt.log2_lt_of (by decide) (Nat.lt_of_le_of_lt h ?_)
  decide +kernel
theorem two_ints {i : Int} (h : i.natAbs.log2 < 1000) : (PyData.list [.int i, .int i]).showable = true ∧ (PyData.list [.int i, .int i]).hasDict = false ∧ (PyData.list [.int i, .int i]).depth ≤ 40 ∧ (PyData.list [.int i, .int i]).shown.length ≤ sizeLine := by
  have tl : (Str.ofString (toString i)).length ≤ 1001 := by
    rw [PySem.ofString_length]
    exact int_text_length_le (by decide) h
  refine ⟨?_, rfl, by simp only [PyData.depth, PyData.depthAll]; omega, ?_⟩
  · simp only [PyData.showable, PyData.showableAll, Bool.and_true, Bool.and_self]
    exact decide_eq_true (by omega)
  have l := PyData.shown_le 1001 (by decide) (.list [.int i, .int i]) (PyData.leavesShort_of_canLay0 1001 _ (by simp only [PyData.canLay0, PyData.canLayAll0, Bool.and_self]) (by
    simp only [PyData.intsShort, PyData.intsShortAll, Bool.and_true, Bool.and_self]
    exact decide_eq_true tl))
  have w : (PyData.list [.int i, .int i]).weight ≤ 2004 := by
    simp only [PyData.weight, PyData.weightAll]
    have w1 : (if (i == 0) = true then 0 else i.natAbs.log2 + 1) ≤ 1000 := by split <;> omega
    omega
  rw [sizeLine_eq]
  omega
/-- names of a canonical list with these numbers are in the menu -/
theorem in_menu {r : IL} {f : Str → Int} (c : Can r) (v : ∀ k, vl r k = f k) (z : ∀ k, k ∉ menu0 → f k = 0) : ∀ k ∈ ks r, k ∈ menu0 := fun k hk => Classical.byContradiction fun q => by
  have := (c.iff k).mp hk
  rw [v, z k q] at this
  exact this rfl
theorem shw_of {r : IL} (c : Can r) (m : ∀ k ∈ ks r, k ∈ menu0) (b : ∀ k, (vl r k).natAbs < 2 ^ 422) : Shw r := by
  refine ⟨fun p hp => ⟨menu_ok p.1 (m p.1 (List.mem_map_of_mem hp)), ?_⟩, ?_⟩
  · have := b p.1
    rw [vl_mem (pw_nodup c.asc) hp] at this
    exact this
  · have := len_sub (pw_nodup c.asc) m
    rw [ks_len] at this
    exact this
theorem shw_sum {d M1 M2 : IL} {x y : Int} (c : Can d) (v : ∀ k, vl d k = x * vl M1 k + y * vl M2 k) (m1 : ∀ k ∈ ks M1, k ∈ menu0) (m2 : ∀ k ∈ ks M2, k ∈ menu0) (D1 : Bd 400 M1) (D2 : Bd 400 M2) (bx : x.natAbs < 2 ^ 21) (by' : y.natAbs < 2 ^ 21) : Shw d := by
  refine shw_of c (in_menu c v fun k hk => ?_) fun k => ?_
  · rw [vl_none (fun z => hk (m1 k z)), vl_none (fun z => hk (m2 k z)), Int.mul_zero, Int.mul_zero]; rfl
  · rw [v]
    have h1 := wide_lt (a := 21) (b := 400) bx (D1 k)
    have h2 := wide_lt (a := 21) (b := 400) by' (D2 k)
    have h3 := Int.natAbs_add_le (x * vl M1 k) (y * vl M2 k)
    have e : (2 : Nat) ^ 422 = 2 ^ (21 + 400) + 2 ^ (21 + 400) := by decide +kernel
    rw [e]
    omega
theorem shw_nil : Shw [] := ⟨fun _ h => (nomatch h), Nat.zero_le _⟩
theorem dot_menu {l1 l2 M1 M2 : IL} (n : (ks l1).Nodup) (m : ∀ k ∈ ks l1, k ∈ menu0) (h1 : ∀ k, vl l1 k = vl M1 k) (h2 : ∀ k, vl l2 k = vl M2 k) : dotI l1 l2 = (menu0.map fun k => vl M1 k * vl M2 k).sum := by
  unfold dotI
  rw [sum_menu (fun k => vl l1 k * vl l2 k) n m fun x hx => by show vl l1 x * vl l2 x = 0; rw [vl_none hx, Int.zero_mul]]
  congr 1
  exact List.map_congr_left fun k _ => by rw [h1, h2]
def one1 (i : Int) : IL := [(Str.ofString "a", i)]
theorem one_ok (i : Int) : okL (one1 i) := fun k h => by
  rcases List.mem_cons.mp (show k ∈ [Str.ofString "a"] from h) with e | e
  · rw [e]; decide +kernel
  · cases e
theorem one_nd (i : Int) : (ks (one1 i)).Nodup := List.nodup_cons.mpr ⟨List.not_mem_nil, List.nodup_nil⟩
theorem one_vl (i : Int) (k : Str) : vl (one1 i) k = if k = Str.ofString "a" then i else 0 := by
  unfold vl one1
  rw [List.lookup_cons]
  by_cases e : k = Str.ofString "a"
  · rw [if_pos e, beq_iff_eq.mpr e]; rfl
  · rw [if_neg e, beq_eq_false_iff_ne.mpr e]; rfl
theorem one_bd (i : Int) (h : i.natAbs < 2 ^ 1000) : Bd 1000 (one1 i) := fun k => by
  rw [one_vl]
  split
  · exact h
  · show (0 : Int).natAbs < _
    decide +kernel

def spLaw (K : PySem.W.Frag) : Sp := fun vs H Q _ => ∃ (a : Addr) (ns : List Int), vs = [.ref a] ∧ SqL K H a (ns.map V.int) ∧ ns.length ≤ 63 ∧ ∀ H', Q (.bl true) H'
theorem g_cmeth {C : Addr} {sp : Sp} {E : XK} {ta : TE} {t : TA} {σ : L2.St} {H : Hp} {Q : VK} (h : ta σ H fun x H1 => x = .ref C ∧ t σ H1 fun vs H2 => sp (.ref C :: vs) H2 Q E) : tCMeth C sp E ta t σ H Q := h
theorem g_meth {C : Addr} {m : Str} {sp : Sp} {dvs : List L2.V} {E : XK} {ta : TE} {t : TA} {σ : L2.St} {H : Hp} {Q : VK} (h : ta σ H fun x H1 => ∃ a dx fs, x = .ref a ∧ H1 a = some (.ins C dx fs) ∧ fs.lookup m = none ∧ t σ H1 fun vs H2 => sp (x :: (vs ++ dvs)) H2 Q E) : tMeth C m sp dvs E ta t σ H Q := h
theorem g_methK {C : Addr} {m : Str} {sp : Sp} {gV : List L2.V → List L2.V → List L2.V} {E : XK} {ta : TE} {tk : TA} {σ : L2.St} {H : Hp} {Q : VK} (h : ta σ H fun x H1 => ∃ a dx fs, x = .ref a ∧ H1 a = some (.ins C dx fs) ∧ fs.lookup m = none ∧ tk σ H1 fun zs H2 => sp (gV [.ref a] zs) H2 Q E) : tMethK C m sp gV E ta tk σ H Q := h
theorem g_newK {C : Addr} {ks : List Str} {sp : SpK} {E : XK} {tk : TA} {σ : L2.St} {H : Hp} {Q : VK} (h : tk σ H fun zs H1 => zs.length = ks.length ∧ InsQ C sp [] (ks.zip zs) H1 Q E) : tNewK C ks sp E tk σ H Q := h
theorem g_repW {H : Hp} {Q : VK} {l : Addr} {k : Int} {xs ws : List L2.V} (h : H l = some (.lst xs)) (k0 : -(2 ^ 63) ≤ k) (k1 : k < 2 ^ 63) (z : xs.length * k.toNat ≤ sizeLine) (e : (List.replicate k.toNat xs).flatten = ws) (q : ∀ p, H p = none → Q (.ref p) (upd H p (.lst ws))) : rRep (.ref l) (.int k) H Q :=
  g_rep h k0 k1 z (by rw [e]; exact q)
theorem bd_up {l : IL} (h : Bd 400 l) : Bd 1000 l := fun k => Nat.lt_of_lt_of_le (h k) (Nat.pow_le_pow_right (by decide) (by decide))
theorem bd_kept {l r : IL} {b : Nat} (k : Kept l r) (h : Bd b l) : Bd b r := fun x => by rw [k.vl]; exact h x
theorem ok_menu {l : IL} (h : ∀ k ∈ ks l, k ∈ menu0) : okL l := fun k hk => menu_ok k (h k hk)
section
variable {P : Program} {w : World} {K : PySem.W.Frag} {mg : Str → Option Value} {base : Heap}
theorem ok_law_pen4 (V : VF K mg) : FnOk P w K mg base CX0 1 V.fLP V.dLP ["_law_script"] (spPen K) := ok_law_pen V.F_law_pen V.t.p
set_option maxHeartbeats 40000000 in
theorem ok_law (V : VF K mg) {f : Addr} {fd : FuncData} (F : Fun K "law" "law" s_law f fd) : FnG P w K mg base CX0 11 f fd ["_law_script"] (spLaw K) := by
  have G_law_pen := ok_law_pen4 (P := P) (w := w) (base := base) V
  have G_law_draw := k_law_draw (P := P) (w := w) (base := base) V
  have G_law_pick := k_law_pick (P := P) (w := w) (base := base) V
  have G_law_box := ok_law_box (P := P) (w := w) (base := base) V
  have G_law_sum := ok_law_sum (P := P) (w := w) (base := base) V
  have G_law_told := ok_law_told (P := P) (w := w) (base := base) V
  have G_init := k_init (P := P) (w := w) (base := base) V
  have G_of := (ok_of (P := P) (w := w) (base := base) V).raw V.b_of .nil
  have G_add := (ok_add (P := P) (w := w) (base := base) V).raw V.b_add .nil
  have G_sub := (ok_sub (P := P) (w := w) (base := base) V).raw V.b_sub .nil
  have G_mul := (ok_mul (P := P) (w := w) (base := base) V).raw V.b_mul .nil
  have G_neg := (ok_neg (P := P) (w := w) (base := base) V).raw V.b_neg .nil
  have G_eq := (ok_eq (P := P) (w := w) (base := base) V).raw V.b_eq .nil
  have G_len := (ok_len (P := P) (w := w) (base := base) V).raw V.b_len .nil
  have G_bool := (ok_bool (P := P) (w := w) (base := base) V).raw V.b_bool .nil
  have G_dot := ok_dot (P := P) (w := w) (base := base) V
  refine fnG F sc_law (fun vs H Q E h => ?_) (fun cdv A outer s H vs Q E hg hr h => ?_)
  · obtain ⟨a, ns, rfl, _⟩ := h
    rfl
  · obtain ⟨a, ns, rfl, hS, len, k⟩ := h
    have hu := hu_of hr
    have T := V.t
    refine ⟨_, (pss_cons (ps_set (i := 1) sc_law.nd rfl (Or.inl rfl) (pe_call G_law_pen (hr.mono (by decide)) (by rfl) V.g_law_pen V.F_law_pen.kp V.b_law_pen .nil pass0 (pa_cons (pv 0) pa_nil)))
      (pss_cons (ps_for PassesOwn.never rfl (pi_range1 rfl T.range (pa_cons pe_int pa_nil)) (pg_name (i := 2) sc_law.nd rfl (Or.inl rfl)) (pss_cons (ps_set (i := 3) sc_law.nd rfl (Or.inr rfl) (pe_call G_law_box (hr.mono (by decide)) (by rfl) V.g_law_box V.F_law_box.kp V.b_law_box .nil pass0 (pa_cons (pv 1) (pa_cons pe_dnewK pa_nil))))
      (pss_cons (ps_set (i := 4) sc_law.nd rfl (Or.inr rfl) (pe_call G_law_box (hr.mono (by decide)) (by rfl) V.g_law_box V.F_law_box.kp V.b_law_box .nil pass0 (pa_cons (pv 1) (pa_cons (pv 3) pa_nil))))
      (pss_cons (ps_par (i := 5) (j := 6) (by rfl) sc_law.nd rfl rfl (by decide) rfl rfl (pa_cons (pe_cmeth (pe_glob (v := .ref V.C) rfl V.g_Vector rfl) V.rd_V V.cm_of G_of (hr.mono (by decide)) pass0 (pa_cons (pv 3) pa_nil)) (pa_cons (pe_cmeth (pe_glob (v := .ref V.C) rfl V.g_Vector rfl) V.rd_V V.cm_of G_of (hr.mono (by decide)) pass0 (pa_cons (pv 4) pa_nil)) pa_nil)) (by rfl))
      (pss_cons (ps_set (i := 7) sc_law.nd rfl (Or.inl rfl) (pe_call G_law_pick (hr.mono (by decide)) (by rfl) V.g_law_pick V.F_law_pick.kp V.b_law_pick .nil pass0 (pa_cons (pv 1) (pa_cons (pe_lst (pa_cons pe_int (pa_cons pe_int (pa_cons (pe_un un_neg pe_int) (pa_cons pe_int (pa_cons (pe_un un_neg pe_int) (pa_cons (pe_op op_sub (pe_call G_law_draw (hr.mono (by decide)) (by rfl) V.g_law_draw V.F_law_draw.kp V.b_law_draw .nil pass0 (pa_cons (pv 1) (pa_cons pe_int pa_nil))) pe_int) pa_nil))))))) pa_nil))))
      (pss_cons (ps_set (i := 8) sc_law.nd rfl (Or.inl rfl) (pe_lst (pa_cons (pe_call G_law_told (hr.mono (by decide)) (by rfl) V.g_law_told V.F_law_told.kp V.b_law_told .nil pass0 (pa_cons (pe_op (op_binO (op := .Add) V.O_add V.sF G_add (hr.mono (by decide)) pass0) (pv 5) (pv 6)) pa_nil)) (pa_cons (pe_call G_law_told (hr.mono (by decide)) (by rfl) V.g_law_told V.F_law_told.kp V.b_law_told .nil pass0 (pa_cons (pe_op (op_binO (op := .Add) V.O_add V.sF G_add (hr.mono (by decide)) pass0) (pv 6) (pv 5)) pa_nil)) (pa_cons (pe_call G_law_told (hr.mono (by decide)) (by rfl) V.g_law_told V.F_law_told.kp V.b_law_told .nil pass0 (pa_cons (pe_op (op_binO (op := .Sub) V.O_sub V.sF G_sub (hr.mono (by decide)) pass0) (pv 5) (pv 6)) pa_nil)) (pa_cons (pe_call G_law_told (hr.mono (by decide)) (by rfl) V.g_law_told V.F_law_told.kp V.b_law_told .nil pass0 (pa_cons (pe_op (op_binO (op := .Sub) V.O_sub V.sF G_sub (hr.mono (by decide)) pass0) (pv 6) (pv 5)) pa_nil)) pa_nil))))))
      (pss_cons (ps_set (i := 8) sc_law.nd rfl (Or.inl rfl) (pe_op op_cat (pv 8) (pe_lst (pa_cons (pe_call G_law_told (hr.mono (by decide)) (by rfl) V.g_law_told V.F_law_told.kp V.b_law_told .nil pass0 (pa_cons (pe_un (un_negO V.O_neg G_neg (hr.mono (by decide)) pass0) (pv 5)) pa_nil)) (pa_cons (pe_call G_law_told (hr.mono (by decide)) (by rfl) V.g_law_told V.F_law_told.kp V.b_law_told .nil pass0 (pa_cons (pe_op (op_mulO (op := .Mult) V.O_mul V.sF V.n_rmul V.i_mul V.i_rmul V.i_sub G_mul (hr.mono (by decide)) pass0) (pv 5) (pv 7)) pa_nil)) (pa_cons (pe_call G_law_told (hr.mono (by decide)) (by rfl) V.g_law_told V.F_law_told.kp V.b_law_told .nil pass0 (pa_cons (pe_op (op_binO (op := .Sub) V.O_sub V.sF G_sub (hr.mono (by decide)) pass0) (pv 5) (pv 5)) pa_nil)) pa_nil))))))
      (pss_cons (ps_set (i := 9) sc_law.nd rfl (Or.inl rfl) (pe_op op_cat (pe_op op_rep (pe_lst (pa_cons (pe_call G_law_sum (hr.mono (by decide)) (by rfl) V.g_law_sum V.F_law_sum.kp V.b_law_sum .nil pass0 (pa_cons (pv 3) (pa_cons pe_int (pa_cons (pv 4) (pa_cons pe_int pa_nil))))) pa_nil)) pe_int) (pe_lst (pa_cons (pe_call G_law_sum (hr.mono (by decide)) (by rfl) V.g_law_sum V.F_law_sum.kp V.b_law_sum .nil pass0 (pa_cons (pv 3) (pa_cons pe_int (pa_cons (pv 4) (pa_cons (pe_un un_neg pe_int) pa_nil))))) (pa_cons (pe_call G_law_sum (hr.mono (by decide)) (by rfl) V.g_law_sum V.F_law_sum.kp V.b_law_sum .nil pass0 (pa_cons (pv 3) (pa_cons (pe_un un_neg pe_int) (pa_cons (pv 4) (pa_cons pe_int pa_nil))))) pa_nil)))))
      (pss_cons (ps_set (i := 9) sc_law.nd rfl (Or.inl rfl) (pe_op op_cat (pv 9) (pe_lst (pa_cons (pe_call G_law_sum (hr.mono (by decide)) (by rfl) V.g_law_sum V.F_law_sum.kp V.b_law_sum .nil pass0 (pa_cons (pv 3) (pa_cons (pe_un un_neg pe_int) (pa_cons (pv 4) (pa_cons pe_int pa_nil))))) (pa_cons (pe_call G_law_sum (hr.mono (by decide)) (by rfl) V.g_law_sum V.F_law_sum.kp V.b_law_sum .nil pass0 (pa_cons (pv 3) (pa_cons (pv 7) (pa_cons (pv 4) (pa_cons pe_int pa_nil))))) (pa_cons (pe_lst pa_nil) pa_nil))))))
      (pss_cons (ps_if (pt_cmpR op_ne (pe_callB (call_repr hg (hr.units)) (by rfl) T.repr (by decide +kernel) (pa_cons (pv 8) pa_nil)) (pe_callB (call_repr hg (hr.units)) (by rfl) T.repr (by decide +kernel) (pa_cons (pv 9) pa_nil)) (nomark _)) (pss_one (ps_ret pe_bl)) pss_nil)
      (pss_cons (ps_set (i := 10) sc_law.nd rfl (Or.inl rfl) (pe_callB (cr_sum rfl) (by rfl) T.sum (by decide +kernel) (pa_cons (pe_lock (pe_lc (own := [("_law_label", 11)]) (g := gName 11) rfl sc_law.nd (pi_keys (pv 3)) (blkOk_by (own := [("_law_label", 11)]) (N := N_law) (sc := defScope s_law) (by decide +kernel)) (fun _ _ _ _ _ => pg_name (i := 11) sc_law.nd rfl (Or.inl rfl)) (fun _ _ _ _ _ => pts_nil) (fun _ _ _ _ _ => (pe_op op_mulW (pe_dget hu (pv 3) (pv 11) (fun _ _ => rfl)) (pe_dget2 hu (pv 4) (pv 11) pe_int ⟨rfl, rfl, rfl, rfl⟩))))) pa_nil)))
      (pss_cons (ps_if (pt_cmpR op_ne (pe_callB (call_repr hg (hr.units)) (by rfl) T.repr (by decide +kernel) (pa_cons (pe_lst (pa_cons (pe_meth (pv 5) V.c_V V.m_dot G_dot (hr.mono (by decide)) V.b_dot .nil pass0 (pa_cons (pv 6) pa_nil)) (pa_cons (pe_methKw (pv 6) V.c_V V.m_dot G_dot (hr.mono (by decide)) V.kb_dot pass0 (pk_cons (pv 5) pk_nil)) pa_nil))) pa_nil)) (pe_callB (call_repr hg (hr.units)) (by rfl) T.repr (by decide +kernel) (pa_cons (pe_op op_rep (pe_lst (pa_cons (pv 10) pa_nil)) pe_int) pa_nil)) (nomark _)) (pss_one (ps_ret pe_bl)) pss_nil)
      (pss_cons (ps_if (PW.pt (pw_or (pt_cmpR (op_neD (hr.units)) (pe_call G_law_told (hr.mono (by decide)) (by rfl) V.g_law_told V.F_law_told.kp V.b_law_told .nil pass0 (pa_cons (pv 5) pa_nil)) (pe_call G_law_sum (hr.mono (by decide)) (by rfl) V.g_law_sum V.F_law_sum.kp V.b_law_sum .nil pass0 (pa_cons (pv 3) (pa_cons pe_int (pa_cons pe_dnewK (pa_cons pe_int pa_nil))))) (nomark _)) (pw_or1 (pt_cmpR (op_neD (hr.units)) (pe_call G_law_told (hr.mono (by decide)) (by rfl) V.g_law_told V.F_law_told.kp V.b_law_told .nil pass0 (pa_cons (pv 6) pa_nil)) (pe_call G_law_sum (hr.mono (by decide)) (by rfl) V.g_law_sum V.F_law_sum.kp V.b_law_sum .nil pass0 (pa_cons (pv 4) (pa_cons pe_int (pa_cons pe_dnewK (pa_cons pe_int pa_nil))))) (nomark _))))) (pss_one (ps_ret pe_bl)) pss_nil)
      (pss_one (ps_if (PW.pt (pw_or (pt_cmpR op_ne (pe_cmpR (op_eqO V.O_eq G_eq (hr.mono (by decide)) pass0) (pv 5) (pv 6) (nomark _)) (pe_cmpR (op_eqD (hr.units)) (pe_call G_law_told (hr.mono (by decide)) (by rfl) V.g_law_told V.F_law_told.kp V.b_law_told .nil pass0 (pa_cons (pv 5) pa_nil)) (pe_call G_law_told (hr.mono (by decide)) (by rfl) V.g_law_told V.F_law_told.kp V.b_law_told .nil pass0 (pa_cons (pv 6) pa_nil)) (nomark _)) (nomark _)) (pw_or1 (pt_cmpR op_ne (pe_callB (call_lenO V.O_len G_len (hr.mono (by decide)) pass0) (by rfl) T.len (by decide +kernel) (pa_cons (pe_op (op_binO (op := .Add) V.O_add V.sF G_add (hr.mono (by decide)) pass0) (pv 5) (pv 6)) pa_nil)) (pe_callB call_lenL (by rfl) T.len (by decide +kernel) (pa_cons (pe_ix ix_list (pv 9) pe_int (fun _ _ => rfl)) pa_nil)) (nomark _))))) (pss_one (ps_ret pe_bl)) pss_nil)))))))))))))))
      (pss_one (ps_ret (pe_and (pe_cmpR op_is_bl (pe_callTy (call_boolO V.O_bool G_bool (hr.mono (by decide)) pass0) (by rfl) T.bool (by decide +kernel) (pa_cons (pe_op (op_binO (op := .Sub) V.O_sub V.sF G_sub (hr.mono (by decide)) pass0) (pe_newK (ks := ["a"]) (by rfl) V.g_Vector V.mk_V G_init (hr.mono (by decide)) pass0 (pk_cons pe_int pk_nil) (by decide)) (pe_newK (ks := ["a"]) (by rfl) V.g_Vector V.mk_V G_init (hr.mono (by decide)) pass0 (pk_cons pe_int pk_nil) (by decide))) pa_nil)) pe_bl (nomark _)) (pe_one (pe_cmpR (op_eqO V.O_eq G_eq (hr.mono (by decide)) pass0) (pe_op (op_mulO (op := .Mult) V.O_mul V.sF V.n_rmul V.i_mul V.i_rmul V.i_sub G_mul (hr.mono (by decide)) pass0) (pe_newK (ks := ["a"]) (by rfl) V.g_Vector V.mk_V G_init (hr.mono (by decide)) pass0 (pk_cons pe_int pk_nil) (by decide)) pe_int) (pe_newK (ks := ["a"]) (by rfl) V.g_Vector V.mk_V G_init (hr.mono (by decide)) pass0 (pk_cons pe_int pk_nil) (by decide)) (nomark _)))))))), ?_⟩
    try dsimp only [cxOf]
    rw [show L2.start N_law [.ref a] = [some (.ref a), none, none, none, none, none, none, none, none, none, none, none] from rfl]
    walk_at "hline"
    refine ⟨a, ns, rfl, hS, len, ?_⟩
    intro q H1 nq P1 s1
    clear hS s1
    walk_at "hx"
    refine g_seq ?_
    walk_at "hx"
    refine g_rng (by decide) (by decide) ?_
    refine for_range (n := 12) (fun i σ' H' => (∃ y2 y3 y4 y5 y6 y7 y8 y9 y10 y11, σ' = [some (.ref a), some (.ref q), y2, y3, y4, y5, y6, y7, y8, y9, y10, y11]) ∧ Pen H' q (200 * i)) ⟨⟨none, none, none, none, none, none, none, none, none, none, rfl⟩, P1⟩ ?_ ?_
    · rintro i σ' H2 hi ⟨⟨y2, y3, y4, y5, y6, y7, y8, y9, y10, y11, rfl⟩, P2⟩
      walk_at "hx"
      refine g_seq ?_
      walk_at "hx"
      intro e ne
      walk_at "hx"
      refine ⟨q, e, 200 * i, [], rfl, P2.new ne, by omega, upd_same, fun k => (show (0 : Int).natAbs < 2 ^ 400 by decide +kernel), ?_⟩
      intro b1 M1 H3 led3 nb1 hb1 nd1 m1 ln1 D1
      have n1q : b1 ≠ q := (P2.new ne).ne nb1
      walk_at "hx"
      refine g_seq ?_
      walk_at "hx"
      refine ⟨q, b1, _, M1, rfl, led3.pen, by omega, hb1, D1, ?_⟩
      intro b2 M2 H4 led4 nb2 hb2 nd2 m2 ln2 D2
      have n2q : b2 ≠ q := led3.pen.ne nb2
      have n21 : b2 ≠ b1 := fun z => by rw [z, hb1] at nb2; cases nb2
      replace hb1 := led4.but.st _ _ n1q hb1
      have P4 := led4.pen
      clear led3 led4 nb1 nb2 P2 ne
      walk_at "hx"
      refine g_seq ?_
      refine g_par ?_
      walk_at "hx"
      refine g_cmeth ?_
      walk_at "hx"
      refine ⟨rfl, ?_⟩
      walk_at "hx"
      refine ⟨b1, M1, rfl, hb1, ok_menu m1, nd1, by omega, ?_⟩
      intro v1 l1 H5 nv1 s5 A1 kp1
      walk_at "hx"
      refine g_cmeth ?_
      walk_at "hx"
      refine ⟨rfl, ?_⟩
      walk_at "hx"
      refine ⟨b2, M2, rfl, s5 _ _ hb2, ok_menu m2, nd2, by omega, ?_⟩
      intro v2 l2 H6 nv2 s6 A2 kp2
      walk_at "hx"
      refine ⟨_, _, rfl, ?_⟩
      have s46 := same_trans s5 s6
      have P6 := P4.same s46
      replace hb1 := s46 _ _ hb1
      replace hb2 := s46 _ _ hb2
      replace A1 := A1.same s6
      have nv1q : v1 ≠ q := P4.ne nv1
      have nv2q : v2 ≠ q := (P4.same s5).ne nv2
      clear s5 s6 s46 nv1 nv2 P4
      walk_at "hx"
      refine g_seq ?_
      walk_at "hx"
      refine ⟨q, 2000000, _, rfl, P6, by omega, by decide, by decide, ?_⟩
      intro d H7 d0 d1 P7 t7
      walk_at "hx"
      intro pp npp
      walk_at "hx"
      have P8 := P7.new (o := .lst [L2.V.int 0, .int 1, .int (-1), .int 999999, .int (-999999), .int (d - 1000000)]) npp
      refine ⟨q, pp, 200 * i + 60 + 60 + 1, _, rfl, P8, by omega, P7.ne npp, upd_same, by simp, by simp, ?_⟩
      intro vo H8 hv P9 t9
      have t89 := (t7.new npp).trans t9
      obtain ⟨o, rfl, bo0⟩ : ∃ o : Int, vo = .int o ∧ o.natAbs < 2 ^ 20 := by
        have e20 : (2 : Nat) ^ 20 = 1048576 := by decide
        rw [e20]
        simp only [List.mem_cons, List.not_mem_nil, or_false] at hv
        rcases hv with rfl | rfl | rfl | rfl | rfl | rfl
        all_goals exact ⟨_, rfl, by omega⟩
      have bo : o.natAbs < 2 ^ 1000 := Nat.lt_of_lt_of_le bo0 (Nat.pow_le_pow_right (by decide) (by decide))
      replace hb1 := t89.st _ _ n1q hb1
      replace hb2 := t89.st _ _ n2q hb2
      replace A1 := VA.but A1 t89 nv1q P6.at
      replace A2 := VA.but A2 t89 nv2q P6.at
      clear t7 t9 t89 npp P7 P8 P6 hv
      have E1 := bd_kept kp1 D1
      have E2 := bd_kept kp2 D2
      have B1 := bd_up E1
      have B2 := bd_up E2
      have F1 := bd_up D1
      have F2 := bd_up D2
      have ll1 : l1.length ≤ 14 := Nat.le_trans kp1.len ln1
      have ll2 : l2.length ≤ 14 := Nat.le_trans kp2.len ln2
      have ok1 := ok_menu m1
      have ok2 := ok_menu m2
      have S : Same H8 H8 := Same.refl H8
      walk_at "hx"
      refine g_seq ?_
      walk_at "hx"
      refine ⟨v1, v2, rfl, rfl, (A1.same S).inst, (A2.same S).inst, v1, v2, _, _, rfl, A1.same S, A2.same S, by omega, by omega, B2, ?_⟩
      intro c1 r1 h1 nc1 s va lr1 vr1
      refine ⟨c1, rfl, ?_⟩
      replace S := same_trans S s
      have C1 := va.can
      clear s
      walk_at "hx"
      refine ⟨c1, r1, rfl, va, by omega, ?_⟩
      intro p1 g1 np1 s R1
      replace S := same_trans S s
      clear s
      walk_at "hx"
      clear va
      refine ⟨v2, v1, rfl, rfl, (A2.same S).inst, (A1.same S).inst, v2, v1, _, _, rfl, A2.same S, A1.same S, by omega, by omega, B1, ?_⟩
      intro c2 r2 h2 nc2 s va lr2 vr2
      refine ⟨c2, rfl, ?_⟩
      replace S := same_trans S s
      replace R1 := R1.same s
      have C2 := va.can
      clear s
      walk_at "hx"
      refine ⟨c2, r2, rfl, va, by omega, ?_⟩
      intro p2 g2 np2 s R2
      replace S := same_trans S s
      replace R1 := R1.same s
      clear s
      walk_at "hx"
      clear va
      refine ⟨v1, v2, rfl, rfl, (A1.same S).inst, (A2.same S).inst, v1, v2, _, _, rfl, A1.same S, A2.same S, by omega, by omega, B2, ?_⟩
      intro c3 r3 h3 nc3 s va lr3 vr3
      refine ⟨c3, rfl, ?_⟩
      replace S := same_trans S s
      replace R1 := R1.same s
      replace R2 := R2.same s
      have C3 := va.can
      clear s
      walk_at "hx"
      refine ⟨c3, r3, rfl, va, by omega, ?_⟩
      intro p3 g3 np3 s R3
      replace S := same_trans S s
      replace R1 := R1.same s
      replace R2 := R2.same s
      clear s
      walk_at "hx"
      clear va
      refine ⟨v2, v1, rfl, rfl, (A2.same S).inst, (A1.same S).inst, v2, v1, _, _, rfl, A2.same S, A1.same S, by omega, by omega, B1, ?_⟩
      intro c4 r4 h4 nc4 s va lr4 vr4
      refine ⟨c4, rfl, ?_⟩
      replace S := same_trans S s
      replace R1 := R1.same s
      replace R2 := R2.same s
      replace R3 := R3.same s
      have C4 := va.can
      clear s
      walk_at "hx"
      refine ⟨c4, r4, rfl, va, by omega, ?_⟩
      intro p4 g4 np4 s R4
      replace S := same_trans S s
      replace R1 := R1.same s
      replace R2 := R2.same s
      replace R3 := R3.same s
      clear s
      walk_at "hx"
      clear va
      intro pA npA
      have s := same_new (o := .lst [L2.V.ref p1, L2.V.ref p2, L2.V.ref p3, L2.V.ref p4]) npA
      have hpA : upd g4 pA (.lst [L2.V.ref p1, L2.V.ref p2, L2.V.ref p3, L2.V.ref p4]) pA = some (.lst [L2.V.ref p1, L2.V.ref p2, L2.V.ref p3, L2.V.ref p4]) := upd_same
      generalize upd g4 pA (.lst [L2.V.ref p1, L2.V.ref p2, L2.V.ref p3, L2.V.ref p4]) = HpA at s hpA ⊢
      replace S := same_trans S s
      replace R1 := R1.same s
      replace R2 := R2.same s
      replace R3 := R3.same s
      replace R4 := R4.same s
      clear s
      walk_at "hx"
      refine g_seq ?_
      walk_at "hx"
      refine ⟨v1, rfl, (A1.same S).inst, v1, l1, rfl, A1.same S, by omega, B1, ?_⟩
      intro c5 r5 h5 nc5 s va lr5 vr5
      replace S := same_trans S s
      replace R1 := R1.same s
      replace R2 := R2.same s
      replace R3 := R3.same s
      replace R4 := R4.same s
      replace hpA := s _ _ hpA
      have C5 := va.can
      clear s
      walk_at "hx"
      refine ⟨c5, r5, rfl, va, by omega, ?_⟩
      intro p5 g5 np5 s R5
      replace S := same_trans S s
      replace R1 := R1.same s
      replace R2 := R2.same s
      replace R3 := R3.same s
      replace R4 := R4.same s
      replace hpA := s _ _ hpA
      clear s
      walk_at "hx"
      clear va
      refine ⟨v1, o, rfl, rfl, (A1.same S).inst, v1, l1, o, rfl, A1.same S, by omega, B1, bo, ?_⟩
      intro c6 r6 h6 nc6 s va lr6 vr6
      refine ⟨c6, rfl, ?_⟩
      replace S := same_trans S s
      replace R1 := R1.same s
      replace R2 := R2.same s
      replace R3 := R3.same s
      replace R4 := R4.same s
      replace R5 := R5.same s
      replace hpA := s _ _ hpA
      have C6 := va.can
      clear s
      walk_at "hx"
      refine ⟨c6, r6, rfl, va, by omega, ?_⟩
      intro p6 g6 np6 s R6
      replace S := same_trans S s
      replace R1 := R1.same s
      replace R2 := R2.same s
      replace R3 := R3.same s
      replace R4 := R4.same s
      replace R5 := R5.same s
      replace hpA := s _ _ hpA
      clear s
      walk_at "hx"
      clear va
      refine ⟨v1, v1, rfl, rfl, (A1.same S).inst, (A1.same S).inst, v1, v1, _, _, rfl, A1.same S, A1.same S, by omega, by omega, B1, ?_⟩
      intro c7 r7 h7 nc7 s va lr7 vr7
      refine ⟨c7, rfl, ?_⟩
      replace S := same_trans S s
      replace R1 := R1.same s
      replace R2 := R2.same s
      replace R3 := R3.same s
      replace R4 := R4.same s
      replace R5 := R5.same s
      replace R6 := R6.same s
      replace hpA := s _ _ hpA
      have C7 := va.can
      clear s
      walk_at "hx"
      refine ⟨c7, r7, rfl, va, by omega, ?_⟩
      intro p7 g7 np7 s R7
      replace S := same_trans S s
      replace R1 := R1.same s
      replace R2 := R2.same s
      replace R3 := R3.same s
      replace R4 := R4.same s
      replace R5 := R5.same s
      replace R6 := R6.same s
      replace hpA := s _ _ hpA
      clear s
      walk_at "hx"
      clear va
      intro pB npB
      have s := same_new (o := .lst [L2.V.ref p5, L2.V.ref p6, L2.V.ref p7]) npB
      have hpB : upd g7 pB (.lst [L2.V.ref p5, L2.V.ref p6, L2.V.ref p7]) pB = some (.lst [L2.V.ref p5, L2.V.ref p6, L2.V.ref p7]) := upd_same
      generalize upd g7 pB (.lst [L2.V.ref p5, L2.V.ref p6, L2.V.ref p7]) = HpB at s hpB ⊢
      replace S := same_trans S s
      replace R1 := R1.same s
      replace R2 := R2.same s
      replace R3 := R3.same s
      replace R4 := R4.same s
      replace R5 := R5.same s
      replace R6 := R6.same s
      replace R7 := R7.same s
      replace hpA := s _ _ hpA
      clear s
      walk_at "hx"
      refine g_catW hpA hpB (ws := [L2.V.ref p1, L2.V.ref p2, L2.V.ref p3, L2.V.ref p4, L2.V.ref p5, L2.V.ref p6, L2.V.ref p7]) rfl (show (7 : Nat) ≤ sizeLine by decide) ?_
      intro pT npT
      have s := same_new (o := .lst [L2.V.ref p1, L2.V.ref p2, L2.V.ref p3, L2.V.ref p4, L2.V.ref p5, L2.V.ref p6, L2.V.ref p7]) npT
      have hpT : upd HpB pT (.lst [L2.V.ref p1, L2.V.ref p2, L2.V.ref p3, L2.V.ref p4, L2.V.ref p5, L2.V.ref p6, L2.V.ref p7]) pT = some (.lst [L2.V.ref p1, L2.V.ref p2, L2.V.ref p3, L2.V.ref p4, L2.V.ref p5, L2.V.ref p6, L2.V.ref p7]) := upd_same
      generalize upd HpB pT (.lst [L2.V.ref p1, L2.V.ref p2, L2.V.ref p3, L2.V.ref p4, L2.V.ref p5, L2.V.ref p6, L2.V.ref p7]) = HpT at s hpT ⊢
      replace S := same_trans S s
      replace R1 := R1.same s
      replace R2 := R2.same s
      replace R3 := R3.same s
      replace R4 := R4.same s
      replace R5 := R5.same s
      replace R6 := R6.same s
      replace R7 := R7.same s
      replace hpA := s _ _ hpA
      replace hpB := s _ _ hpB
      clear s
      walk_at "hx"
      refine g_seq ?_
      walk_at "hx"
      refine ⟨b1, 1, b2, 1, M1, M2, rfl, S _ _ hb1, S _ _ hb2, nd1, nd2, ok1, ok2, by omega, by omega, F1, F2, by decide, by decide, ?_⟩
      intro pa da ha npa s Ra Ca oka lda vda
      replace S := same_trans S s
      replace R1 := R1.same s
      replace R2 := R2.same s
      replace R3 := R3.same s
      replace R4 := R4.same s
      replace R5 := R5.same s
      replace R6 := R6.same s
      replace R7 := R7.same s
      replace hpA := s _ _ hpA
      replace hpB := s _ _ hpB
      replace hpT := s _ _ hpT
      clear s
      walk_at "hx"
      intro pC npC
      have s := same_new (o := .lst [L2.V.ref pa]) npC
      have hpC : upd ha pC (.lst [L2.V.ref pa]) pC = some (.lst [L2.V.ref pa]) := upd_same
      generalize upd ha pC (.lst [L2.V.ref pa]) = HpC at s hpC ⊢
      replace S := same_trans S s
      replace R1 := R1.same s
      replace R2 := R2.same s
      replace R3 := R3.same s
      replace R4 := R4.same s
      replace R5 := R5.same s
      replace R6 := R6.same s
      replace R7 := R7.same s
      replace Ra := Ra.same s
      replace hpA := s _ _ hpA
      replace hpB := s _ _ hpB
      replace hpT := s _ _ hpT
      clear s
      walk_at "hx"
      refine g_repW hpC (ws := [L2.V.ref pa, L2.V.ref pa]) (by decide) (by decide) (show (2 : Nat) ≤ sizeLine by decide) rfl ?_
      intro pD npD
      have s := same_new (o := .lst [L2.V.ref pa, L2.V.ref pa]) npD
      have hpD : upd HpC pD (.lst [L2.V.ref pa, L2.V.ref pa]) pD = some (.lst [L2.V.ref pa, L2.V.ref pa]) := upd_same
      generalize upd HpC pD (.lst [L2.V.ref pa, L2.V.ref pa]) = HpD at s hpD ⊢
      replace S := same_trans S s
      replace R1 := R1.same s
      replace R2 := R2.same s
      replace R3 := R3.same s
      replace R4 := R4.same s
      replace R5 := R5.same s
      replace R6 := R6.same s
      replace R7 := R7.same s
      replace Ra := Ra.same s
      replace hpA := s _ _ hpA
      replace hpB := s _ _ hpB
      replace hpT := s _ _ hpT
      replace hpC := s _ _ hpC
      clear s
      walk_at "hx"
      refine ⟨b1, 1, b2, -1, M1, M2, rfl, S _ _ hb1, S _ _ hb2, nd1, nd2, ok1, ok2, by omega, by omega, F1, F2, by decide, by decide, ?_⟩
      intro pb db hb npb s Rb Cb okb ldb vdb
      replace S := same_trans S s
      replace R1 := R1.same s
      replace R2 := R2.same s
      replace R3 := R3.same s
      replace R4 := R4.same s
      replace R5 := R5.same s
      replace R6 := R6.same s
      replace R7 := R7.same s
      replace Ra := Ra.same s
      replace hpA := s _ _ hpA
      replace hpB := s _ _ hpB
      replace hpT := s _ _ hpT
      replace hpC := s _ _ hpC
      replace hpD := s _ _ hpD
      clear s
      walk_at "hx"
      refine ⟨b1, -1, b2, 1, M1, M2, rfl, S _ _ hb1, S _ _ hb2, nd1, nd2, ok1, ok2, by omega, by omega, F1, F2, by decide, by decide, ?_⟩
      intro pc dc hc npc s Rc Cc okc ldc vdc
      replace S := same_trans S s
      replace R1 := R1.same s
      replace R2 := R2.same s
      replace R3 := R3.same s
      replace R4 := R4.same s
      replace R5 := R5.same s
      replace R6 := R6.same s
      replace R7 := R7.same s
      replace Ra := Ra.same s
      replace Rb := Rb.same s
      replace hpA := s _ _ hpA
      replace hpB := s _ _ hpB
      replace hpT := s _ _ hpT
      replace hpC := s _ _ hpC
      replace hpD := s _ _ hpD
      clear s
      walk_at "hx"
      intro pE npE
      have s := same_new (o := .lst [L2.V.ref pb, L2.V.ref pc]) npE
      have hpE : upd hc pE (.lst [L2.V.ref pb, L2.V.ref pc]) pE = some (.lst [L2.V.ref pb, L2.V.ref pc]) := upd_same
      generalize upd hc pE (.lst [L2.V.ref pb, L2.V.ref pc]) = HpE at s hpE ⊢
      replace S := same_trans S s
      replace R1 := R1.same s
      replace R2 := R2.same s
      replace R3 := R3.same s
      replace R4 := R4.same s
      replace R5 := R5.same s
      replace R6 := R6.same s
      replace R7 := R7.same s
      replace Ra := Ra.same s
      replace Rb := Rb.same s
      replace Rc := Rc.same s
      replace hpA := s _ _ hpA
      replace hpB := s _ _ hpB
      replace hpT := s _ _ hpT
      replace hpC := s _ _ hpC
      replace hpD := s _ _ hpD
      clear s
      walk_at "hx"
      refine g_catW hpD hpE (ws := [L2.V.ref pa, L2.V.ref pa, L2.V.ref pb, L2.V.ref pc]) rfl (show (4 : Nat) ≤ sizeLine by decide) ?_
      intro pF npF
      have s := same_new (o := .lst [L2.V.ref pa, L2.V.ref pa, L2.V.ref pb, L2.V.ref pc]) npF
      have hpF : upd HpE pF (.lst [L2.V.ref pa, L2.V.ref pa, L2.V.ref pb, L2.V.ref pc]) pF = some (.lst [L2.V.ref pa, L2.V.ref pa, L2.V.ref pb, L2.V.ref pc]) := upd_same
      generalize upd HpE pF (.lst [L2.V.ref pa, L2.V.ref pa, L2.V.ref pb, L2.V.ref pc]) = HpF at s hpF ⊢
      replace S := same_trans S s
      replace R1 := R1.same s
      replace R2 := R2.same s
      replace R3 := R3.same s
      replace R4 := R4.same s
      replace R5 := R5.same s
      replace R6 := R6.same s
      replace R7 := R7.same s
      replace Ra := Ra.same s
      replace Rb := Rb.same s
      replace Rc := Rc.same s
      replace hpA := s _ _ hpA
      replace hpB := s _ _ hpB
      replace hpT := s _ _ hpT
      replace hpC := s _ _ hpC
      replace hpD := s _ _ hpD
      replace hpE := s _ _ hpE
      clear s
      walk_at "hx"
      refine g_seq ?_
      walk_at "hx"
      refine ⟨b1, -1, b2, 0, M1, M2, rfl, S _ _ hb1, S _ _ hb2, nd1, nd2, ok1, ok2, by omega, by omega, F1, F2, by decide, by decide, ?_⟩
      intro pd dd hd npd s Rd Cd okd ldd vdd
      replace S := same_trans S s
      replace R1 := R1.same s
      replace R2 := R2.same s
      replace R3 := R3.same s
      replace R4 := R4.same s
      replace R5 := R5.same s
      replace R6 := R6.same s
      replace R7 := R7.same s
      replace Ra := Ra.same s
      replace Rb := Rb.same s
      replace Rc := Rc.same s
      replace hpA := s _ _ hpA
      replace hpB := s _ _ hpB
      replace hpT := s _ _ hpT
      replace hpC := s _ _ hpC
      replace hpD := s _ _ hpD
      replace hpE := s _ _ hpE
      replace hpF := s _ _ hpF
      clear s
      walk_at "hx"
      refine ⟨b1, o, b2, 0, M1, M2, rfl, S _ _ hb1, S _ _ hb2, nd1, nd2, ok1, ok2, by omega, by omega, F1, F2, bo, by decide, ?_⟩
      intro pe de he npe s Re Ce oke lde vde
      replace S := same_trans S s
      replace R1 := R1.same s
      replace R2 := R2.same s
      replace R3 := R3.same s
      replace R4 := R4.same s
      replace R5 := R5.same s
      replace R6 := R6.same s
      replace R7 := R7.same s
      replace Ra := Ra.same s
      replace Rb := Rb.same s
      replace Rc := Rc.same s
      replace Rd := Rd.same s
      replace hpA := s _ _ hpA
      replace hpB := s _ _ hpB
      replace hpT := s _ _ hpT
      replace hpC := s _ _ hpC
      replace hpD := s _ _ hpD
      replace hpE := s _ _ hpE
      replace hpF := s _ _ hpF
      clear s
      walk_at "hx"
      intro pZ npZ
      have s := same_new (o := .lst []) npZ
      have hpZ : upd he pZ (.lst []) pZ = some (.lst []) := upd_same
      generalize upd he pZ (.lst []) = HpZ at s hpZ ⊢
      replace S := same_trans S s
      replace R1 := R1.same s
      replace R2 := R2.same s
      replace R3 := R3.same s
      replace R4 := R4.same s
      replace R5 := R5.same s
      replace R6 := R6.same s
      replace R7 := R7.same s
      replace Ra := Ra.same s
      replace Rb := Rb.same s
      replace Rc := Rc.same s
      replace Rd := Rd.same s
      replace Re := Re.same s
      replace hpA := s _ _ hpA
      replace hpB := s _ _ hpB
      replace hpT := s _ _ hpT
      replace hpC := s _ _ hpC
      replace hpD := s _ _ hpD
      replace hpE := s _ _ hpE
      replace hpF := s _ _ hpF
      clear s
      have RZ : Rows _ pZ [] := ⟨[], hpZ, .nil⟩
      walk_at "hx"
      intro pG npG
      have s := same_new (o := .lst [L2.V.ref pd, L2.V.ref pe, L2.V.ref pZ]) npG
      have hpG : upd HpZ pG (.lst [L2.V.ref pd, L2.V.ref pe, L2.V.ref pZ]) pG = some (.lst [L2.V.ref pd, L2.V.ref pe, L2.V.ref pZ]) := upd_same
      generalize upd HpZ pG (.lst [L2.V.ref pd, L2.V.ref pe, L2.V.ref pZ]) = HpG at s hpG ⊢
      replace S := same_trans S s
      replace R1 := R1.same s
      replace R2 := R2.same s
      replace R3 := R3.same s
      replace R4 := R4.same s
      replace R5 := R5.same s
      replace R6 := R6.same s
      replace R7 := R7.same s
      replace Ra := Ra.same s
      replace Rb := Rb.same s
      replace Rc := Rc.same s
      replace Rd := Rd.same s
      replace Re := Re.same s
      replace RZ := RZ.same s
      replace hpA := s _ _ hpA
      replace hpB := s _ _ hpB
      replace hpT := s _ _ hpT
      replace hpC := s _ _ hpC
      replace hpD := s _ _ hpD
      replace hpE := s _ _ hpE
      replace hpF := s _ _ hpF
      replace hpZ := s _ _ hpZ
      clear s
      walk_at "hx"
      refine g_catW hpF hpG (ws := [L2.V.ref pa, L2.V.ref pa, L2.V.ref pb, L2.V.ref pc, L2.V.ref pd, L2.V.ref pe, L2.V.ref pZ]) rfl (show (7 : Nat) ≤ sizeLine by decide) ?_
      intro pU npU
      have s := same_new (o := .lst [L2.V.ref pa, L2.V.ref pa, L2.V.ref pb, L2.V.ref pc, L2.V.ref pd, L2.V.ref pe, L2.V.ref pZ]) npU
      have hpU : upd HpG pU (.lst [L2.V.ref pa, L2.V.ref pa, L2.V.ref pb, L2.V.ref pc, L2.V.ref pd, L2.V.ref pe, L2.V.ref pZ]) pU = some (.lst [L2.V.ref pa, L2.V.ref pa, L2.V.ref pb, L2.V.ref pc, L2.V.ref pd, L2.V.ref pe, L2.V.ref pZ]) := upd_same
      generalize upd HpG pU (.lst [L2.V.ref pa, L2.V.ref pa, L2.V.ref pb, L2.V.ref pc, L2.V.ref pd, L2.V.ref pe, L2.V.ref pZ]) = HpU at s hpU ⊢
      replace S := same_trans S s
      replace R1 := R1.same s
      replace R2 := R2.same s
      replace R3 := R3.same s
      replace R4 := R4.same s
      replace R5 := R5.same s
      replace R6 := R6.same s
      replace R7 := R7.same s
      replace Ra := Ra.same s
      replace Rb := Rb.same s
      replace Rc := Rc.same s
      replace Rd := Rd.same s
      replace Re := Re.same s
      replace RZ := RZ.same s
      replace hpA := s _ _ hpA
      replace hpB := s _ _ hpB
      replace hpT := s _ _ hpT
      replace hpC := s _ _ hpC
      replace hpD := s _ _ hpD
      replace hpE := s _ _ hpE
      replace hpF := s _ _ hpF
      replace hpZ := s _ _ hpZ
      replace hpG := s _ _ hpG
      clear s
      walk_at "hx"
      have nilC : Can [] := ⟨.nil, fun _ h => (nomatch h)⟩
      have e1 : r1 = da := C1.ext Ca fun k => by rw [vr1, vda, kp1.vl, kp2.vl]; omega
      have e2 : r2 = da := C2.ext Ca fun k => by rw [vr2, vda, kp1.vl, kp2.vl]; omega
      have e3 : r3 = db := C3.ext Cb fun k => by rw [vr3, vdb, kp1.vl, kp2.vl]; omega
      have e4 : r4 = dc := C4.ext Cc fun k => by rw [vr4, vdc, kp1.vl, kp2.vl]; omega
      have e5 : r5 = dd := C5.ext Cd fun k => by rw [vr5, vdd, kp1.vl]; omega
      have e6 : r6 = de := C6.ext Ce fun k => by rw [vr6, vde, kp1.vl, Int.mul_comm, Int.zero_mul, Int.add_zero]
      have e7 : r7 = [] := C7.ext nilC fun k => by rw [vr7, vl_nil]; omega
      rw [e1] at R1
      rw [e2] at R2
      rw [e3] at R3
      rw [e4] at R4
      rw [e5] at R5
      rw [e6] at R6
      rw [e7] at R7
      have one20 : (1 : Int).natAbs < 2 ^ 21 := by decide
      have neg20 : (-1 : Int).natAbs < 2 ^ 21 := by decide
      have zer20 : (0 : Int).natAbs < 2 ^ 21 := by decide
      have SH : ∀ r ∈ [da, da, db, dc, dd, de, []], Shw r := by
        have ga := shw_sum Ca vda m1 m2 D1 D2 one20 one20
        have gb := shw_sum Cb vdb m1 m2 D1 D2 one20 neg20
        have gc := shw_sum Cc vdc m1 m2 D1 D2 neg20 one20
        have gd := shw_sum Cd vdd m1 m2 D1 D2 neg20 zer20
        have ge := shw_sum Ce vde m1 m2 D1 D2 (Nat.lt_trans bo0 (by decide)) zer20
        intro r hr'
        simp only [List.mem_cons, List.not_mem_nil, or_false] at hr'
        rcases hr' with rfl | rfl | rfl | rfl | rfl | rfl | rfl
        · exact ga
        · exact ga
        · exact gb
        · exact gc
        · exact gd
        · exact ge
        · exact shw_nil
      refine g_seq ?_
      walk_at "hx"
      refine g_repr (.list ([da, da, db, dc, dd, de, []].map K4.pd)) (.lst (SqL.of hpT) (.cons R1.dp (.cons R2.dp (.cons R3.dp (.cons R4.dp (.cons R5.dp (.cons R6.dp (.cons R7.dp .nil)))))))) (pds_show SH (Nat.le_refl 7)) ?_
      walk_at "hx"
      refine g_repr (.list ([da, da, db, dc, dd, de, []].map K4.pd)) (.lst (SqL.of hpU) (.cons Ra.dp (.cons Ra.dp (.cons Rb.dp (.cons Rc.dp (.cons Rd.dp (.cons Re.dp (.cons RZ.dp .nil)))))))) (pds_show SH (Nat.le_refl 7)) ?_
      walk_at "hx"
      refine g_false (by simp) ?_
      walk_at "hx"
      clear R1 R2 R3 R4 R5 R6 R7 Rb Rc Rd Re RZ SH hpA hpB hpC hpD hpE hpF hpG hpT hpZ
      refine g_seq ?_
      walk_at "hx"
      have k1 := S _ _ hb1
      have k2 := S _ _ hb2
      refine g_lockE b1 _ k1 trivial fun od => ?_
      walk_at "hx"
      refine g_keysV rfl upd_same fun D hD => ?_
      have ndD : D ≠ b1 := fun e => by rw [e, upd_same] at hD; cases hD
      rw [upd_ne ndD] at hD
      refine lc_it walk_keys (fun i H' => H' b1 = some (.frz od (.dK (DI M1))) ∧ H' D = some (.lst ((((ks M1).take i).map fun k => vl M1 k * vl M2 k).map L2.V.int)) ∧ Oth b1 HpU H') ?_ (fun _ _ _ z => z.1) ?_ ?_
      · refine ⟨?_, upd_same, ?_⟩
        · rw [upd_ne ndD.symm]; exact upd_same
        · exact (oth_upd (H := HpU)).put hD
      · rintro j x G1 G2 hj ⟨w1, w2, w3⟩ ⟨rfl, ky, v, hkv, rfl⟩
        obtain ⟨x, jj, hx, rfl, rfl, mx⟩ := di_at hkv
        have hk : (ks M1)[j]? = some x := by unfold ks; rw [List.getElem?_map, hx]; rfl
        walk_at "hgo"
        refine ⟨rfl, ?_⟩
        walk_at "hgo"
        refine g_dget ?_
        walk_at "hgo"
        refine ⟨b1, _, rfl, rd_at (.inr ⟨od, w1⟩) mx, ?_⟩
        walk_at "hgo"
        refine g_dget2 ?_
        walk_at "hgo"
        have re := rd_frz w1 w3 k1 k2
        refine ⟨b2, rfl, .inl ⟨_, re⟩, ?_⟩
        walk_at "hgo"
        refine ⟨_, rd_get re, ?_⟩
        rw [get0]
        refine g_I (wide_mul (F1 x) (F2 x) (by decide) (by decide) (by decide)) ?_
        refine ⟨_, w2, ?_, ?_, upd_same.trans ?_, ?_⟩
        · rw [List.length_map, List.length_map, List.length_take, ks_len]
          exact Nat.lt_of_lt_of_le (show min j M1.length < 1000 by omega) (by decide)
        · rw [upd_ne ndD.symm]; exact w1
        · rw [take_snoc hk, List.map_append, List.map_append]; rfl
        · exact w3.put hD
      · rintro G1 ⟨w1, w2, w3⟩
        refine ⟨w1, ?_⟩
        rw [DI_len, ← ks_len, List.take_length] at w2
        have sg := w3.back k1
        have hD1 : upd G1 b1 (.dK (DI M1)) D = some (.lst (((ks M1).map fun k => vl M1 k * vl M2 k).map L2.V.int)) := by rw [upd_ne ndD]; exact w2
        generalize upd G1 b1 (.dK (DI M1)) = G2 at sg hD1 ⊢
        replace S := same_trans S sg
        replace Ra := Ra.same sg
        replace hpU := sg _ _ hpU
        clear sg w1 w2 w3 k1 k2 hD ndD
        walk_at "hx"
        refine ⟨D, _, rfl, SqL.of hD1, ?_⟩
        have eX : ((ks M1).map fun k => vl M1 k * vl M2 k).sum = (menu0.map fun k => vl M1 k * vl M2 k).sum := sum_menu _ nd1 m1 fun x hx => by
          show vl M1 x * vl M2 x = 0
          rw [vl_none hx, Int.zero_mul]
        rw [eX]
        have lg := dot_lt (f := vl M1) (g := vl M2) D1 D2
        have n1 := pw_nodup A1.can.asc
        have n2 := pw_nodup A2.can.asc
        have dt1 : dotI l1 l2 = (menu0.map fun k => vl M1 k * vl M2 k).sum := dot_menu n1 (fun x hx => m1 x (kp1.sub x hx)) kp1.vl kp2.vl
        have dt2 : dotI l2 l1 = (menu0.map fun k => vl M1 k * vl M2 k).sum := by
          rw [dot_menu n2 (fun x hx => m2 x (kp2.sub x hx)) kp2.vl kp1.vl]
          congr 1
          exact List.map_congr_left fun k _ => Int.mul_comm _ _
        generalize (menu0.map fun k => vl M1 k * vl M2 k).sum = X0 at lg dt1 dt2 ⊢
        walk_at "hx"
        refine g_seq ?_
        walk_at "hx"
        refine g_meth ?_
        walk_at "hx"
        obtain ⟨⟨dd1, dx1, i1, j1⟩, _, _⟩ := A1.same S
        refine ⟨v1, dx1, _, rfl, i1, rfl, ?_⟩
        walk_at "hx"
        refine ⟨v1, v2, l1, l2, rfl, A1.same S, A2.same S, by omega, B1, B2, ?_⟩
        intro G3 s
        rw [dt1]
        replace S := same_trans S s
        replace Ra := Ra.same s
        replace hpU := s _ _ hpU
        clear s i1 j1
        walk_at "hx"
        refine g_methK ?_
        walk_at "hx"
        obtain ⟨⟨dd2, dx2, i2, j2⟩, _, _⟩ := A2.same S
        refine ⟨v2, dx2, _, rfl, i2, rfl, ?_⟩
        walk_at "hx"
        refine ⟨v2, v1, l2, l1, rfl, A2.same S, A1.same S, by omega, B2, B1, ?_⟩
        intro G4 s
        rw [dt2]
        replace S := same_trans S s
        replace Ra := Ra.same s
        replace hpU := s _ _ hpU
        clear s i2 j2
        walk_at "hx"
        intro pX nX
        have s := same_new (o := .lst [L2.V.int X0, L2.V.int X0]) nX
        replace S := same_trans S s
        replace Ra := Ra.same s
        replace hpU := s _ _ hpU
        clear s
        walk_at "hx"
        refine g_repr (.list [.int X0, .int X0]) (.lst (SqL.of upd_same) (.cons (.int _) (.cons (.int _) .nil))) (two_ints lg) ?_
        generalize upd G4 pX (.lst [L2.V.int X0, L2.V.int X0]) = G5 at S Ra hpU ⊢
        walk_at "hx"
        intro pY nY
        have s := same_new (o := .lst [L2.V.int X0]) nY
        have hpY : upd G5 pY (.lst [L2.V.int X0]) pY = some (.lst [L2.V.int X0]) := upd_same
        replace S := same_trans S s
        replace Ra := Ra.same s
        replace hpU := s _ _ hpU
        clear s
        generalize upd G5 pY (.lst [L2.V.int X0]) = G6 at S Ra hpU hpY ⊢
        walk_at "hx"
        refine g_repW hpY (ws := [L2.V.int X0, L2.V.int X0]) (by decide) (by decide) (show (2 : Nat) ≤ sizeLine by decide) rfl ?_
        intro pV nV
        have s := same_new (o := .lst [L2.V.int X0, L2.V.int X0]) nV
        replace S := same_trans S s
        replace Ra := Ra.same s
        replace hpU := s _ _ hpU
        clear s
        walk_at "hx"
        refine g_repr (.list [.int X0, .int X0]) (.lst (SqL.of upd_same) (.cons (.int _) (.cons (.int _) .nil))) (two_ints lg) ?_
        generalize upd G6 pV (.lst [L2.V.int X0, L2.V.int X0]) = G7 at S Ra hpU ⊢
        walk_at "hx"
        refine g_false (by simp) ?_
        walk_at "hx"
        clear dt1 dt2 lg hpY
        have W1 : Shw l1 := shw_of A1.can (fun x hx => m1 x (kp1.sub x hx)) fun k => Nat.lt_trans (E1 k) (by decide +kernel)
        have W2 : Shw l2 := shw_of A2.can (fun x hx => m2 x (kp2.sub x hx)) fun k => Nat.lt_trans (E2 k) (by decide +kernel)
        refine g_seq ?_
        walk_at "hx"
        refine ⟨v1, l1, rfl, A1.same S, by omega, ?_⟩
        intro tp1 G1 _ s TR1
        replace S := same_trans S s
        replace Ra := Ra.same s
        replace hpU := s _ _ hpU
        clear s
        walk_at "hx"
        intro ed1 ne1
        have s := same_new (o := .dK []) ne1
        have hed1 : upd G1 ed1 (.dK []) ed1 = some (.dK (DI [])) := upd_same
        replace S := same_trans S s
        replace Ra := Ra.same s
        replace hpU := s _ _ hpU
        replace TR1 := TR1.same s
        clear s
        generalize upd G1 ed1 (.dK []) = I1 at S Ra hpU TR1 hed1 ⊢
        walk_at "hx"
        refine ⟨b1, 1, ed1, 0, M1, [], rfl, S _ _ hb1, hed1, nd1, List.nodup_nil, ok1, fun _ h => (nomatch h), by omega, by decide, F1, fun k => (show (0 : Int).natAbs < 2 ^ 1000 by decide +kernel), by decide, by decide, ?_⟩
        intro sp1 sd1 J1 _ s SR1 SC1 _ _ sv1
        replace S := same_trans S s
        replace Ra := Ra.same s
        replace hpU := s _ _ hpU
        replace TR1 := TR1.same s
        clear s
        have es1 : sd1 = l1 := SC1.ext A1.can fun k => by rw [sv1, kp1.vl, vl_nil]; omega
        rw [es1] at SR1
        walk_at "hx"
        refine g_neD TR1.dp SR1.dp (pd_shaped W1) (pd_shaped W1) ?_
        rw [eqv_pd, decide_eq_true rfl]
        walk_at "hx"
        refine ⟨v2, l2, rfl, A2.same S, by omega, ?_⟩
        intro tp2 G2 _ s TR2
        replace S := same_trans S s
        replace Ra := Ra.same s
        replace hpU := s _ _ hpU
        clear s
        walk_at "hx"
        intro ed2 ne2
        have s := same_new (o := .dK []) ne2
        have hed2 : upd G2 ed2 (.dK []) ed2 = some (.dK (DI [])) := upd_same
        replace S := same_trans S s
        replace Ra := Ra.same s
        replace hpU := s _ _ hpU
        replace TR2 := TR2.same s
        clear s
        generalize upd G2 ed2 (.dK []) = I2 at S Ra hpU TR2 hed2 ⊢
        walk_at "hx"
        refine ⟨b2, 1, ed2, 0, M2, [], rfl, S _ _ hb2, hed2, nd2, List.nodup_nil, ok2, fun _ h => (nomatch h), by omega, by decide, F2, fun k => (show (0 : Int).natAbs < 2 ^ 1000 by decide +kernel), by decide, by decide, ?_⟩
        intro sp2 sd2 J2 _ s SR2 SC2 _ _ sv2
        replace S := same_trans S s
        replace Ra := Ra.same s
        replace hpU := s _ _ hpU
        replace TR2 := TR2.same s
        clear s
        have es2 : sd2 = l2 := SC2.ext A2.can fun k => by rw [sv2, kp2.vl, vl_nil]; omega
        rw [es2] at SR2
        walk_at "hx"
        refine g_neD TR2.dp SR2.dp (pd_shaped W2) (pd_shaped W2) ?_
        rw [eqv_pd, decide_eq_true rfl]
        walk_at "hx"
        refine ⟨v1, .ref V.C, rfl, (A1.same S).inst, (A2.same S).ty V rfl, V.nf_V, v1, v2, l1, l2, rfl, A1.same S, A2.same S, ?_⟩
        refine ⟨_, rfl, ?_⟩
        walk_at "hx"
        refine ⟨v1, l1, rfl, A1.same S, by omega, ?_⟩
        intro tp3 G3 _ s TR3
        replace S := same_trans S s
        replace Ra := Ra.same s
        replace hpU := s _ _ hpU
        clear s
        walk_at "hx"
        refine ⟨v2, l2, rfl, A2.same S, by omega, ?_⟩
        intro tp4 G4 _ s TR4
        replace S := same_trans S s
        replace Ra := Ra.same s
        replace hpU := s _ _ hpU
        replace TR3 := TR3.same s
        clear s
        walk_at "hx"
        refine g_eqD TR3.dp TR4.dp (pd_shaped W1) (pd_shaped W2) ?_
        rw [eqv_pd]
        walk_at "hx"
        refine g_false (by simp) ?_
        walk_at "hx"
        refine ⟨v1, v2, rfl, rfl, (A1.same S).inst, (A2.same S).inst, v1, v2, _, _, rfl, A1.same S, A2.same S, by omega, by omega, B2, ?_⟩
        intro c9 r9 G9 _ s va _ vr9
        refine ⟨c9, rfl, ?_⟩
        replace S := same_trans S s
        replace Ra := Ra.same s
        replace hpU := s _ _ hpU
        clear s
        walk_at "hx"
        have e9 : r9 = da := va.can.ext Ca fun k => by rw [vr9, vda, kp1.vl, kp2.vl]; omega
        rw [e9] at va
        have lda : da.length ≤ 14 + 14 := by
          rw [← e9]
          omega
        refine ⟨c9, rfl, va.inst, c9, da, rfl, va, (da.length : Int), rfl, by omega, by omega, ?_⟩
        walk_at "hx"
        obtain ⟨ts, ra1, ra2⟩ := Ra
        refine g_lenL (SqL.of ra1) ?_
        rw [List.length_map, ra2.len]
        walk_at "hx"
        refine g_false (by simp) ?_
        walk_at "hx"
        exact ⟨⟨_, _, _, _, _, _, _, _, _, _, rfl⟩, (P9.same S).more (by omega)⟩
    · rintro σ' H2 ⟨⟨y2, y3, y4, y5, y6, y7, y8, y9, y10, y11, rfl⟩, P2⟩
      clear P2 P1
      walk_at "hx"
      have nilC : Can [] := ⟨.nil, fun _ h => (nomatch h)⟩
      refine g_newK ?_
      walk_at "hx"
      refine ⟨rfl, insq_of (l := one1 1) (one_ok 1) (one_nd 1) (show 1 ≤ 60 by decide) ?_⟩
      intro x1 r1 G1 _ s1 A1 k1
      walk_at "hx"
      refine g_newK ?_
      walk_at "hx"
      refine ⟨rfl, insq_of (l := one1 1) (one_ok 1) (one_nd 1) (show 1 ≤ 60 by decide) ?_⟩
      intro x2 r2 G2 _ s2 A2 k2
      walk_at "hx"
      have q1 : r1.length ≤ 1 := k1.len
      have q2 : r2.length ≤ 1 := k2.len
      refine ⟨x1, x2, rfl, rfl, (A1.same s2).inst, A2.inst, x1, x2, r1, r2, rfl, A1.same s2, A2, by omega, by omega, bd_kept k2 (one_bd 1 (by decide)), ?_⟩
      intro c r G3 _ s3 va _ vr
      refine ⟨c, rfl, ?_⟩
      walk_at "hx"
      have er : r = [] := va.can.ext nilC fun y => by rw [vr, k1.vl, k2.vl, vl_nil]; omega
      rw [er] at va
      refine ⟨c, rfl, va.inst, c, [], rfl, va, _, rfl, ?_⟩
      walk_at "hx"
      refine ⟨false, false, rfl, rfl, ?_⟩
      walk_at "hx"
      refine g_newK ?_
      walk_at "hx"
      refine ⟨rfl, insq_of (l := one1 2) (one_ok 2) (one_nd 2) (show 1 ≤ 60 by decide) ?_⟩
      intro x4 r4 G4 _ s4 A4 k4
      walk_at "hx"
      have q4 : r4.length ≤ 1 := k4.len
      refine ⟨x4, 3, rfl, rfl, A4.inst, x4, r4, 3, rfl, A4, by omega, bd_kept k4 (one_bd 2 (by decide)), by decide, ?_⟩
      intro c5 r5 G5 _ s5 A5 _ vr5
      refine ⟨c5, rfl, ?_⟩
      walk_at "hx"
      refine g_newK ?_
      walk_at "hx"
      refine ⟨rfl, insq_of (l := one1 6) (one_ok 6) (one_nd 6) (show 1 ≤ 60 by decide) ?_⟩
      intro x6 r6 G6 _ s6 A6 k6
      walk_at "hx"
      have e6 : r5 = r6 := A5.can.ext A6.can fun y => by rw [vr5, k4.vl, k6.vl, one_vl, one_vl]; split <;> rfl
      refine ⟨c5, .ref V.C, rfl, (A5.same s6).inst, A6.ty V rfl, V.nf_V, c5, x6, r5, r6, rfl, A5.same s6, A6, ?_⟩
      refine ⟨_, rfl, ?_⟩
      rw [decide_eq_true e6]
      walk_at "hx"
      exact k _
end

theorem kb_two {K : PySem.W.Frag} {x qual a b : Str} {st : Stmt} {f : Addr} {fd : FuncData} (F : Fun K x qual st f fd)
    (h1 : ∀ (kV doc pm : Value) (an : Option Addr) (cdv ct u v : Value), bindArgs (PySem.W.fnOf x qual (defArgs st) (defBody st) (defScope st) .none kV doc pm an cdv ct) ⟨[u], [(b, v)]⟩ = pure [(a, u), (b, v)]) :
    KBinds K fd [a, b] [b] gTwo gTwo := by
  obtain ⟨oc, od, kV, doc, pm, an, cdv, ct, osl, rfl, lk, hcd⟩ := F.ex
  refine ⟨fun s us ws _ hl => ?_, fun {vs us zs ws} r q => ?_⟩
  · match us, ws, hl with
    | [u], [v], _ => exact .of_eq (h1 kV doc pm an cdv ct u v)
    | [], _, hl => cases hl
    | [_], [], hl => cases hl
    | [_], _ :: _ :: _, hl => cases hl
    | _ :: _ :: _, _, hl => cases hl
  · cases r with
    | nil => exact .nil
    | cons r1 r2 =>
      cases r2 with
      | nil =>
        cases q with
        | nil => exact .nil
        | cons q1 q2 =>
          cases q2 with
          | nil => exact .cons r1 (.cons q1 .nil)
          | cons _ _ => exact .nil
      | cons _ _ => exact .nil
theorem dun_add : PySem.dunder Operator.Add.info.2 = ("__add__" : Str) := by decide +kernel
theorem dun_sub : PySem.dunder Operator.Sub.info.2 = ("__sub__" : Str) := by decide +kernel
theorem dun_mul : PySem.dunder Operator.Mult.info.2 = ("__mul__" : Str) := by decide +kernel
theorem dun_rmul : PySem.dunderR Operator.Mult.info.2 = ("__rmul__" : Str) := by decide +kernel
theorem all_mk {P : Program} {w : World} {K : PySem.W.Frag} {h : Heap} {mg : Str → Option Value} {fa : Addr} (X : K.In h) (G : h.Ns mainGlobals mg) (hfa : mg "law" = some (.ref fa))
    {C pOf pNm : Addr} {fo ro : Option Value} {ro1 ro2 : List Value} {fIN fII fGI fKN fPL fLP fLD fLK fLG fLW fLB fLS fLT fI fOF fNM fGT fLN fBL fAD fSB fNG fML fDT fEQ fLaw : Addr} {ocIN kVIN docIN pmIN cdIN ctIN : Value} {odIN anIN : Option Addr} {slIN : Array (Option Value)} {ocII kVII docII pmII cdII ctII : Value} {odII anII : Option Addr} {slII : Array (Option Value)} {ocGI kVGI docGI pmGI cdGI ctGI : Value} {odGI anGI : Option Addr} {slGI : Array (Option Value)} {ocKN kVKN docKN pmKN cdKN ctKN : Value} {odKN anKN : Option Addr} {slKN : Array (Option Value)} {ocPL kVPL docPL pmPL cdPL ctPL : Value} {odPL anPL : Option Addr} {slPL : Array (Option Value)} {ocLP kVLP docLP pmLP cdLP ctLP : Value} {odLP anLP : Option Addr} {slLP : Array (Option Value)} {ocLD kVLD docLD pmLD cdLD ctLD : Value} {odLD anLD : Option Addr} {slLD : Array (Option Value)} {ocLK kVLK docLK pmLK cdLK ctLK : Value} {odLK anLK : Option Addr} {slLK : Array (Option Value)} {ocLG kVLG docLG pmLG cdLG ctLG : Value} {odLG anLG : Option Addr} {slLG : Array (Option Value)} {ocLW kVLW docLW pmLW cdLW ctLW : Value} {odLW anLW : Option Addr} {slLW : Array (Option Value)} {ocLB kVLB docLB pmLB cdLB ctLB : Value} {odLB anLB : Option Addr} {slLB : Array (Option Value)} {ocLS kVLS docLS pmLS cdLS ctLS : Value} {odLS anLS : Option Addr} {slLS : Array (Option Value)} {ocLT kVLT docLT pmLT cdLT ctLT : Value} {odLT anLT : Option Addr} {slLT : Array (Option Value)} {ocLaw kVLaw docLaw pmLaw cdLaw ctLaw : Value} {odLaw anLaw : Option Addr} {slLaw : Array (Option Value)} {ocI kVI docI pmI cdI ctI : Value} {odI anI : Option Addr} {slI : Array (Option Value)} {ocOF kVOF docOF pmOF cdOF ctOF : Value} {odOF anOF : Option Addr} {slOF : Array (Option Value)} {ocNM kVNM docNM pmNM cdNM ctNM : Value} {odNM anNM : Option Addr} {slNM : Array (Option Value)} {ocGT kVGT docGT pmGT cdGT ctGT : Value} {odGT anGT : Option Addr} {slGT : Array (Option Value)} {ocLN kVLN docLN pmLN cdLN ctLN : Value} {odLN anLN : Option Addr} {slLN : Array (Option Value)} {ocBL kVBL docBL pmBL cdBL ctBL : Value} {odBL anBL : Option Addr} {slBL : Array (Option Value)} {ocAD kVAD docAD pmAD cdAD ctAD : Value} {odAD anAD : Option Addr} {slAD : Array (Option Value)} {ocSB kVSB docSB pmSB cdSB ctSB : Value} {odSB anSB : Option Addr} {slSB : Array (Option Value)} {ocNG kVNG docNG pmNG cdNG ctNG : Value} {odNG anNG : Option Addr} {slNG : Array (Option Value)} {ocML kVML docML pmML cdML ctML : Value} {odML anML : Option Addr} {slML : Array (Option Value)} {ocDT kVDT docDT pmDT cdDT ctDT : Value} {odDT anDT : Option Addr} {slDT : Array (Option Value)} {ocEQ kVEQ docEQ pmEQ cdEQ ctEQ : Value} {odEQ anEQ : Option Addr} {slEQ : Array (Option Value)}
    (aIN : PySem.W.nsIn K mainGlobals "is_name" = some (some (.ref fIN)))
    (lIN : K.lookup fIN = some ⟨ocIN, odIN, .func (PySem.W.fnOf "is_name" "is_name" (defArgs s_is_name) (defBody s_is_name) (defScope s_is_name) .none kVIN docIN pmIN anIN cdIN ctIN), slIN⟩)
    (cIN : PySem.W.codeIn K cdIN "is_name" = true)
    (kIN : PySem.W.keepIn K (.ref fIN) = true)
    (aII : PySem.W.nsIn K mainGlobals "is_integer" = some (some (.ref fII)))
    (lII : K.lookup fII = some ⟨ocII, odII, .func (PySem.W.fnOf "is_integer" "is_integer" (defArgs s_is_integer) (defBody s_is_integer) (defScope s_is_integer) .none kVII docII pmII anII cdII ctII), slII⟩)
    (cII : PySem.W.codeIn K cdII "is_integer" = true)
    (kII : PySem.W.keepIn K (.ref fII) = true)
    (aGI : PySem.W.nsIn K mainGlobals "gives_integers" = some (some (.ref fGI)))
    (lGI : K.lookup fGI = some ⟨ocGI, odGI, .func (PySem.W.fnOf "gives_integers" "gives_integers" (defArgs s_gives_integers) (defBody s_gives_integers) (defScope s_gives_integers) .none kVGI docGI pmGI anGI cdGI ctGI), slGI⟩)
    (cGI : PySem.W.codeIn K cdGI "gives_integers" = true)
    (kGI : PySem.W.keepIn K (.ref fGI) = true)
    (aKN : PySem.W.nsIn K mainGlobals "kept_numbers" = some (some (.ref fKN)))
    (lKN : K.lookup fKN = some ⟨ocKN, odKN, .func (PySem.W.fnOf "kept_numbers" "kept_numbers" (defArgs s_kept_numbers) (defBody s_kept_numbers) (defScope s_kept_numbers) .none kVKN docKN pmKN anKN cdKN ctKN), slKN⟩)
    (cKN : PySem.W.codeIn K cdKN "kept_numbers" = true)
    (kKN : PySem.W.keepIn K (.ref fKN) = true)
    (aPL : PySem.W.nsIn K mainGlobals "plus" = some (some (.ref fPL)))
    (lPL : K.lookup fPL = some ⟨ocPL, odPL, .func (PySem.W.fnOf "plus" "plus" (defArgs s_plus) (defBody s_plus) (defScope s_plus) .none kVPL docPL pmPL anPL cdPL ctPL), slPL⟩)
    (cPL : PySem.W.codeIn K cdPL "plus" = true)
    (kPL : PySem.W.keepIn K (.ref fPL) = true)
    (aLP : PySem.W.nsIn K mainGlobals "_law_pen" = some (some (.ref fLP)))
    (lLP : K.lookup fLP = some ⟨ocLP, odLP, .func (PySem.W.fnOf "_law_pen" "_law_pen" (defArgs s_law_pen) (defBody s_law_pen) (defScope s_law_pen) .none kVLP docLP pmLP anLP cdLP ctLP), slLP⟩)
    (cLP : PySem.W.codeIn K cdLP "_law_pen" = true)
    (kLP : PySem.W.keepIn K (.ref fLP) = true)
    (aLD : PySem.W.nsIn K mainGlobals "_law_draw" = some (some (.ref fLD)))
    (lLD : K.lookup fLD = some ⟨ocLD, odLD, .func (PySem.W.fnOf "_law_draw" "_law_draw" (defArgs s_law_draw) (defBody s_law_draw) (defScope s_law_draw) .none kVLD docLD pmLD anLD cdLD ctLD), slLD⟩)
    (cLD : PySem.W.codeIn K cdLD "_law_draw" = true)
    (kLD : PySem.W.keepIn K (.ref fLD) = true)
    (aLK : PySem.W.nsIn K mainGlobals "_law_pick" = some (some (.ref fLK)))
    (lLK : K.lookup fLK = some ⟨ocLK, odLK, .func (PySem.W.fnOf "_law_pick" "_law_pick" (defArgs s_law_pick) (defBody s_law_pick) (defScope s_law_pick) .none kVLK docLK pmLK anLK cdLK ctLK), slLK⟩)
    (cLK : PySem.W.codeIn K cdLK "_law_pick" = true)
    (kLK : PySem.W.keepIn K (.ref fLK) = true)
    (aLG : PySem.W.nsIn K mainGlobals "_law_great" = some (some (.ref fLG)))
    (lLG : K.lookup fLG = some ⟨ocLG, odLG, .func (PySem.W.fnOf "_law_great" "_law_great" (defArgs s_law_great) (defBody s_law_great) (defScope s_law_great) .none kVLG docLG pmLG anLG cdLG ctLG), slLG⟩)
    (cLG : PySem.W.codeIn K cdLG "_law_great" = true)
    (kLG : PySem.W.keepIn K (.ref fLG) = true)
    (aLW : PySem.W.nsIn K mainGlobals "_law_whole" = some (some (.ref fLW)))
    (lLW : K.lookup fLW = some ⟨ocLW, odLW, .func (PySem.W.fnOf "_law_whole" "_law_whole" (defArgs s_law_whole) (defBody s_law_whole) (defScope s_law_whole) .none kVLW docLW pmLW anLW cdLW ctLW), slLW⟩)
    (cLW : PySem.W.codeIn K cdLW "_law_whole" = true)
    (kLW : PySem.W.keepIn K (.ref fLW) = true)
    (aLB : PySem.W.nsIn K mainGlobals "_law_box" = some (some (.ref fLB)))
    (lLB : K.lookup fLB = some ⟨ocLB, odLB, .func (PySem.W.fnOf "_law_box" "_law_box" (defArgs s_law_box) (defBody s_law_box) (defScope s_law_box) .none kVLB docLB pmLB anLB cdLB ctLB), slLB⟩)
    (cLB : PySem.W.codeIn K cdLB "_law_box" = true)
    (kLB : PySem.W.keepIn K (.ref fLB) = true)
    (aLS : PySem.W.nsIn K mainGlobals "_law_sum" = some (some (.ref fLS)))
    (lLS : K.lookup fLS = some ⟨ocLS, odLS, .func (PySem.W.fnOf "_law_sum" "_law_sum" (defArgs s_law_sum) (defBody s_law_sum) (defScope s_law_sum) .none kVLS docLS pmLS anLS cdLS ctLS), slLS⟩)
    (cLS : PySem.W.codeIn K cdLS "_law_sum" = true)
    (kLS : PySem.W.keepIn K (.ref fLS) = true)
    (aLT : PySem.W.nsIn K mainGlobals "_law_told" = some (some (.ref fLT)))
    (lLT : K.lookup fLT = some ⟨ocLT, odLT, .func (PySem.W.fnOf "_law_told" "_law_told" (defArgs s_law_told) (defBody s_law_told) (defScope s_law_told) .none kVLT docLT pmLT anLT cdLT ctLT), slLT⟩)
    (cLT : PySem.W.codeIn K cdLT "_law_told" = true)
    (kLT : PySem.W.keepIn K (.ref fLT) = true)
    (aLaw : PySem.W.nsIn K mainGlobals "law" = some (some (.ref fLaw)))
    (lLaw : K.lookup fLaw = some ⟨ocLaw, odLaw, .func (PySem.W.fnOf "law" "law" (defArgs s_law) (defBody s_law) (defScope s_law) .none kVLaw docLaw pmLaw anLaw cdLaw ctLaw), slLaw⟩)
    (cLaw : PySem.W.codeIn K cdLaw "law" = true)
    (kLaw : PySem.W.keepIn K (.ref fLaw) = true)
    (aC : PySem.W.nsIn K mainGlobals "Vector" = some (some (.ref C)))
    (mkC : PySem.W.makesIn K C = true)
    (kpC : PySem.W.keepIn K (.ref C) = true)
    (pg : PySem.W.plainGet K C Str.empty = true)
    (hd : PySem.W.hasDictIn K C = true)
    (po : PySem.W.plainOver K C = true)
    (sa : PySem.W.findIn K (.ref C) "__setattr__" = some (some (.builtin "object.__setattr__")))
    (nn : PySem.W.findIn K (.ref C) "_numbers" = some none)
    (sF : PySem.W.selfFirst K C = true)
    (rd : PySem.W.readsIn K C (.type "type") = true)
    (rga : PySem.W.specialIn K (.ref C) "__getattribute__" = some (some (.builtin "type.__getattribute__")))
    (cmat : PySem.W.findCls K (.ref C) (.type "type") "of" = some (.get (.builtin "classmethod.__get__") (.ref pOf) .none (.ref C)))
    (cmrc : PySem.W.recIn K pOf "classmethod" = some (.ref fOF :: ro1))
    (cmfi : PySem.W.fnIn K fOF = true)
    (pnat : PySem.W.findIn K (.ref C) "names" = some (some (.ref pNm)))
    (pnget : PySem.W.specialIn K (.ref pNm) "__get__" = some (some (.builtin "property.__get__")))
    (pntak : PySem.W.takesIn K (.ref pNm) = some true)
    (pnrec : PySem.W.recIn K pNm "property" = some (.ref fNM :: ro2))
    (fiI : PySem.W.findIn K (.ref C) "__init__" = some (some (.ref fI)))
    (fnI : PySem.W.isFn K (.ref fI) = true)
    (lI : K.lookup fI = some ⟨ocI, odI, .func (PySem.W.fnOf "__init__" "Vector.__init__" (defArgs s_Vector___init__) (defBody s_Vector___init__) (defScope s_Vector___init__) .none kVI docI pmI anI cdI ctI), slI⟩)
    (cI : PySem.W.codeIn K cdI "Vector.__init__" = true)
    (kI : PySem.W.keepIn K (.ref fI) = true)
    (lOF : K.lookup fOF = some ⟨ocOF, odOF, .func (PySem.W.fnOf "of" "Vector.of" (defArgs s_Vector_of) (defBody s_Vector_of) (defScope s_Vector_of) .none kVOF docOF pmOF anOF cdOF ctOF), slOF⟩)
    (cOF : PySem.W.codeIn K cdOF "Vector.of" = true)
    (kOF : PySem.W.keepIn K (.ref fOF) = true)
    (lNM : K.lookup fNM = some ⟨ocNM, odNM, .func (PySem.W.fnOf "names" "Vector.names" (defArgs s_Vector_names) (defBody s_Vector_names) (defScope s_Vector_names) .none kVNM docNM pmNM anNM cdNM ctNM), slNM⟩)
    (cNM : PySem.W.codeIn K cdNM "Vector.names" = true)
    (kNM : PySem.W.keepIn K (.ref fNM) = true)
    (fiGT : PySem.W.findIn K (.ref C) "__getitem__" = some (some (.ref fGT)))
    (fnGT : PySem.W.isFn K (.ref fGT) = true)
    (lGT : K.lookup fGT = some ⟨ocGT, odGT, .func (PySem.W.fnOf "__getitem__" "Vector.__getitem__" (defArgs s_Vector___getitem__) (defBody s_Vector___getitem__) (defScope s_Vector___getitem__) .none kVGT docGT pmGT anGT cdGT ctGT), slGT⟩)
    (cGT : PySem.W.codeIn K cdGT "Vector.__getitem__" = true)
    (kGT : PySem.W.keepIn K (.ref fGT) = true)
    (fiLN : PySem.W.findIn K (.ref C) "__len__" = some (some (.ref fLN)))
    (fnLN : PySem.W.isFn K (.ref fLN) = true)
    (lLN : K.lookup fLN = some ⟨ocLN, odLN, .func (PySem.W.fnOf "__len__" "Vector.__len__" (defArgs s_Vector___len__) (defBody s_Vector___len__) (defScope s_Vector___len__) .none kVLN docLN pmLN anLN cdLN ctLN), slLN⟩)
    (cLN : PySem.W.codeIn K cdLN "Vector.__len__" = true)
    (kLN : PySem.W.keepIn K (.ref fLN) = true)
    (fiBL : PySem.W.findIn K (.ref C) "__bool__" = some (some (.ref fBL)))
    (fnBL : PySem.W.isFn K (.ref fBL) = true)
    (lBL : K.lookup fBL = some ⟨ocBL, odBL, .func (PySem.W.fnOf "__bool__" "Vector.__bool__" (defArgs s_Vector___bool__) (defBody s_Vector___bool__) (defScope s_Vector___bool__) .none kVBL docBL pmBL anBL cdBL ctBL), slBL⟩)
    (cBL : PySem.W.codeIn K cdBL "Vector.__bool__" = true)
    (kBL : PySem.W.keepIn K (.ref fBL) = true)
    (fiAD : PySem.W.findIn K (.ref C) "__add__" = some (some (.ref fAD)))
    (fnAD : PySem.W.isFn K (.ref fAD) = true)
    (lAD : K.lookup fAD = some ⟨ocAD, odAD, .func (PySem.W.fnOf "__add__" "Vector.__add__" (defArgs s_Vector___add__) (defBody s_Vector___add__) (defScope s_Vector___add__) .none kVAD docAD pmAD anAD cdAD ctAD), slAD⟩)
    (cAD : PySem.W.codeIn K cdAD "Vector.__add__" = true)
    (kAD : PySem.W.keepIn K (.ref fAD) = true)
    (fiSB : PySem.W.findIn K (.ref C) "__sub__" = some (some (.ref fSB)))
    (fnSB : PySem.W.isFn K (.ref fSB) = true)
    (lSB : K.lookup fSB = some ⟨ocSB, odSB, .func (PySem.W.fnOf "__sub__" "Vector.__sub__" (defArgs s_Vector___sub__) (defBody s_Vector___sub__) (defScope s_Vector___sub__) .none kVSB docSB pmSB anSB cdSB ctSB), slSB⟩)
    (cSB : PySem.W.codeIn K cdSB "Vector.__sub__" = true)
    (kSB : PySem.W.keepIn K (.ref fSB) = true)
    (fiNG : PySem.W.findIn K (.ref C) "__neg__" = some (some (.ref fNG)))
    (fnNG : PySem.W.isFn K (.ref fNG) = true)
    (lNG : K.lookup fNG = some ⟨ocNG, odNG, .func (PySem.W.fnOf "__neg__" "Vector.__neg__" (defArgs s_Vector___neg__) (defBody s_Vector___neg__) (defScope s_Vector___neg__) .none kVNG docNG pmNG anNG cdNG ctNG), slNG⟩)
    (cNG : PySem.W.codeIn K cdNG "Vector.__neg__" = true)
    (kNG : PySem.W.keepIn K (.ref fNG) = true)
    (fiML : PySem.W.findIn K (.ref C) "__mul__" = some (some (.ref fML)))
    (fnML : PySem.W.isFn K (.ref fML) = true)
    (lML : K.lookup fML = some ⟨ocML, odML, .func (PySem.W.fnOf "__mul__" "Vector.__mul__" (defArgs s_Vector___mul__) (defBody s_Vector___mul__) (defScope s_Vector___mul__) .none kVML docML pmML anML cdML ctML), slML⟩)
    (cML : PySem.W.codeIn K cdML "Vector.__mul__" = true)
    (kML : PySem.W.keepIn K (.ref fML) = true)
    (fiDT : PySem.W.findIn K (.ref C) "dot" = some (some (.ref fDT)))
    (fnDT : PySem.W.isFn K (.ref fDT) = true)
    (lDT : K.lookup fDT = some ⟨ocDT, odDT, .func (PySem.W.fnOf "dot" "Vector.dot" (defArgs s_Vector_dot) (defBody s_Vector_dot) (defScope s_Vector_dot) .none kVDT docDT pmDT anDT cdDT ctDT), slDT⟩)
    (cDT : PySem.W.codeIn K cdDT "Vector.dot" = true)
    (kDT : PySem.W.keepIn K (.ref fDT) = true)
    (fiEQ : PySem.W.findIn K (.ref C) "__eq__" = some (some (.ref fEQ)))
    (fnEQ : PySem.W.isFn K (.ref fEQ) = true)
    (lEQ : K.lookup fEQ = some ⟨ocEQ, odEQ, .func (PySem.W.fnOf "__eq__" "Vector.__eq__" (defArgs s_Vector___eq__) (defBody s_Vector___eq__) (defScope s_Vector___eq__) .none kVEQ docEQ pmEQ anEQ cdEQ ctEQ), slEQ⟩)
    (cEQ : PySem.W.codeIn K cdEQ "Vector.__eq__" = true)
    (kEQ : PySem.W.keepIn K (.ref fEQ) = true)
    (fnGTi : PySem.W.fnIn K fGT = true)
    (nrm : PySem.W.findIn K (.ref C) "__rmul__" = some none)
    (imu : PySem.W.findIn K (.type "int") "__mul__" = some fo)
    (irm : PySem.W.findIn K (.type "int") "__rmul__" = some ro)
    (isb : PySem.W.subIn K (.type "int") (.ref C) = some false)
    (nf : PySem.W.notFirst K C (.ref C) = true)
    (ca : PySem.W.findIn K (.ref C) "__class__" = some (some (.builtin "object.__class__")))
    (cn : PySem.W.specialIn K (.builtin "object.__class__") "__get__" = some (some (.builtin "getset_descriptor.__get__")))
    (ctk : PySem.W.takesIn K (.builtin "object.__class__") = some true)
    (cm : PySem.W.mroIn K C (.type "object") = some true)
    (z_int : PySem.W.nsIn K mainGlobals "int" = some none)
    (z_bool : PySem.W.nsIn K mainGlobals "bool" = some none)
    (z_str : PySem.W.nsIn K mainGlobals "str" = some none)
    (z_len : PySem.W.nsIn K mainGlobals "len" = some none)
    (z_isinstance : PySem.W.nsIn K mainGlobals "isinstance" = some none)
    (z_dict : PySem.W.nsIn K mainGlobals "dict" = some none)
    (z_all : PySem.W.nsIn K mainGlobals "all" = some none)
    (z_sum : PySem.W.nsIn K mainGlobals "sum" = some none)
    (z_sorted : PySem.W.nsIn K mainGlobals "sorted" = some none)
    (z_set : PySem.W.nsIn K mainGlobals "set" = some none)
    (z_list : PySem.W.nsIn K mainGlobals "list" = some none)
    (z_tuple : PySem.W.nsIn K mainGlobals "tuple" = some none)
    (z_range : PySem.W.nsIn K mainGlobals "range" = some none)
    (z_abs : PySem.W.nsIn K mainGlobals "abs" = some none)
    (z_repr : PySem.W.nsIn K mainGlobals "repr" = some none) :
    ∃ fd : FuncData, (∀ (s : Shared) (u : Value), BindsTo s fd ⟨[u], []⟩ [("_law_script", u)]) ∧ ∀ base : Heap, K.In base → base.Ns mainGlobals mg → FnG P w K mg base CX0 11 fa fd ["_law_script"] (spLaw K) := by
  have e := hfa.symm.trans (PySem.W.mg_of X G aLaw)
  cases e
  have FIN := fun_mk (st := s_is_name) lIN cIN kIN
  have bIN := FIN.binds (ps := ["value"]) fun _ _ _ _ _ _ us hl => match us, hl with | [_], _ => rfl
  have FII := fun_mk (st := s_is_integer) lII cII kII
  have bII := FII.binds (ps := ["value"]) fun _ _ _ _ _ _ us hl => match us, hl with | [_], _ => rfl
  have FGI := fun_mk (st := s_gives_integers) lGI cGI kGI
  have bGI := FGI.binds (ps := ["value"]) fun _ _ _ _ _ _ us hl => match us, hl with | [_], _ => rfl
  have FKN := fun_mk (st := s_kept_numbers) lKN cKN kKN
  have bKN := FKN.binds (ps := ["numbers"]) fun _ _ _ _ _ _ us hl => match us, hl with | [_], _ => rfl
  have FPL := fun_mk (st := s_plus) lPL cPL kPL
  have bPL := FPL.binds (ps := ["one", "other", "times"]) fun _ _ _ _ _ _ us hl => match us, hl with | [_, _, _], _ => rfl
  have FLP := fun_mk (st := s_law_pen) lLP cLP kLP
  have bLP := FLP.binds (ps := ["_law_script"]) fun _ _ _ _ _ _ us hl => match us, hl with | [_], _ => rfl
  have FLD := fun_mk (st := s_law_draw) lLD cLD kLD
  have bLD := FLD.binds (ps := ["_law_pen_here", "_law_many"]) fun _ _ _ _ _ _ us hl => match us, hl with | [_, _], _ => rfl
  have FLK := fun_mk (st := s_law_pick) lLK cLK kLK
  have bLK := FLK.binds (ps := ["_law_pen_here", "_law_some"]) fun _ _ _ _ _ _ us hl => match us, hl with | [_, _], _ => rfl
  have FLG := fun_mk (st := s_law_great) lLG cLG kLG
  have bLG := FLG.binds (ps := ["_law_pen_here", "_law_most"]) fun _ _ _ _ _ _ us hl => match us, hl with | [_, _], _ => rfl
  have FLW := fun_mk (st := s_law_whole) lLW cLW kLW
  have bLW := FLW.binds (ps := ["_law_pen_here"]) fun _ _ _ _ _ _ us hl => match us, hl with | [_], _ => rfl
  have FLB := fun_mk (st := s_law_box) lLB cLB kLB
  have bLB := FLB.binds (ps := ["_law_pen_here", "_law_mate"]) fun _ _ _ _ _ _ us hl => match us, hl with | [_, _], _ => rfl
  have FLS := fun_mk (st := s_law_sum) lLS cLS kLS
  have bLS := FLS.binds (ps := ["_law_box_here", "_law_often", "_law_mate", "_law_times"]) fun _ _ _ _ _ _ us hl => match us, hl with | [_, _, _, _], _ => rfl
  have FLT := fun_mk (st := s_law_told) lLT cLT kLT
  have bLT := FLT.binds (ps := ["_law_made"]) fun _ _ _ _ _ _ us hl => match us, hl with | [_], _ => rfl
  have FI := fun_mk (st := s_Vector___init__) lI cI kI
  have FOF := fun_mk (st := s_Vector_of) lOF cOF kOF
  have bOF := FOF.binds (ps := ["cls", "numbers"]) fun _ _ _ _ _ _ us hl => match us, hl with | [_, _], _ => rfl
  have FNM := fun_mk (st := s_Vector_names) lNM cNM kNM
  have bNM := FNM.binds (ps := ["self"]) fun _ _ _ _ _ _ us hl => match us, hl with | [_], _ => rfl
  have FGT := fun_mk (st := s_Vector___getitem__) lGT cGT kGT
  have bGT := FGT.binds (ps := ["self", "at"]) fun _ _ _ _ _ _ us hl => match us, hl with | [_, _], _ => rfl
  have FLN := fun_mk (st := s_Vector___len__) lLN cLN kLN
  have bLN := FLN.binds (ps := ["self"]) fun _ _ _ _ _ _ us hl => match us, hl with | [_], _ => rfl
  have FBL := fun_mk (st := s_Vector___bool__) lBL cBL kBL
  have bBL := FBL.binds (ps := ["self"]) fun _ _ _ _ _ _ us hl => match us, hl with | [_], _ => rfl
  have FAD := fun_mk (st := s_Vector___add__) lAD cAD kAD
  have bAD := FAD.binds (ps := ["self", "other"]) fun _ _ _ _ _ _ us hl => match us, hl with | [_, _], _ => rfl
  have FSB := fun_mk (st := s_Vector___sub__) lSB cSB kSB
  have bSB := FSB.binds (ps := ["self", "other"]) fun _ _ _ _ _ _ us hl => match us, hl with | [_, _], _ => rfl
  have FNG := fun_mk (st := s_Vector___neg__) lNG cNG kNG
  have bNG := FNG.binds (ps := ["self"]) fun _ _ _ _ _ _ us hl => match us, hl with | [_], _ => rfl
  have FML := fun_mk (st := s_Vector___mul__) lML cML kML
  have bML := FML.binds (ps := ["self", "other"]) fun _ _ _ _ _ _ us hl => match us, hl with | [_, _], _ => rfl
  have FDT := fun_mk (st := s_Vector_dot) lDT cDT kDT
  have bDT := FDT.binds (ps := ["self", "other"]) fun _ _ _ _ _ _ us hl => match us, hl with | [_, _], _ => rfl
  have FEQ := fun_mk (st := s_Vector___eq__) lEQ cEQ kEQ
  have bEQ := FEQ.binds (ps := ["self", "other"]) fun _ _ _ _ _ _ us hl => match us, hl with | [_, _], _ => rfl
  have kbDT := kb_two FDT (a := "self") (b := "other") (fun _ _ _ _ _ _ _ _ => rfl)
  let V : VF K mg := {
    C := C, pOf := pOf, pNm := pNm, mc := .type "type", fo := fo, ro := ro
    fIN := fIN, dIN := _
    fII := fII, dII := _
    fGI := fGI, dGI := _
    fKN := fKN, dKN := _
    fPL := fPL, dPL := _
    fLP := fLP, dLP := _
    fLD := fLD, dLD := _
    fLK := fLK, dLK := _
    fLG := fLG, dLG := _
    fLW := fLW, dLW := _
    fLB := fLB, dLB := _
    fLS := fLS, dLS := _
    fLT := fLT, dLT := _
    fI := fI, dI := _
    fOF := fOF, dOF := _
    fNM := fNM, dNM := _
    fGT := fGT, dGT := _
    fLN := fLN, dLN := _
    fBL := fBL, dBL := _
    fAD := fAD, dAD := _
    fSB := fSB, dSB := _
    fNG := fNG, dNG := _
    fML := fML, dML := _
    fDT := fDT, dDT := _
    fEQ := fEQ, dEQ := _
    t := ⟨PySem.W.mg_none_of X G z_int, PySem.W.mg_none_of X G z_bool, PySem.W.mg_none_of X G z_str, PySem.W.mg_none_of X G z_len, PySem.W.mg_none_of X G z_isinstance, PySem.W.mg_none_of X G z_dict, PySem.W.mg_none_of X G z_all, PySem.W.mg_none_of X G z_sum, PySem.W.mg_none_of X G z_sorted, PySem.W.mg_none_of X G z_set, PySem.W.mg_none_of X G z_list, PySem.W.mg_none_of X G z_tuple, PySem.W.mg_none_of X G z_range, PySem.W.mg_none_of X G z_abs, PySem.W.mg_none_of X G z_repr⟩
    F_is_name := FIN, b_is_name := bIN, g_is_name := PySem.W.mg_of X G aIN
    F_is_integer := FII, b_is_integer := bII, g_is_integer := PySem.W.mg_of X G aII
    F_gives_integers := FGI, b_gives_integers := bGI, g_gives_integers := PySem.W.mg_of X G aGI
    F_kept_numbers := FKN, b_kept_numbers := bKN, g_kept_numbers := PySem.W.mg_of X G aKN
    F_plus := FPL, b_plus := bPL, g_plus := PySem.W.mg_of X G aPL
    F_law_pen := FLP, b_law_pen := bLP, g_law_pen := PySem.W.mg_of X G aLP
    F_law_draw := FLD, b_law_draw := bLD, g_law_draw := PySem.W.mg_of X G aLD
    F_law_pick := FLK, b_law_pick := bLK, g_law_pick := PySem.W.mg_of X G aLK
    F_law_great := FLG, b_law_great := bLG, g_law_great := PySem.W.mg_of X G aLG
    F_law_whole := FLW, b_law_whole := bLW, g_law_whole := PySem.W.mg_of X G aLW
    F_law_box := FLB, b_law_box := bLB, g_law_box := PySem.W.mg_of X G aLB
    F_law_sum := FLS, b_law_sum := bLS, g_law_sum := PySem.W.mg_of X G aLS
    F_law_told := FLT, b_law_told := bLT, g_law_told := PySem.W.mg_of X G aLT
    F_init := FI
    F_of := FOF, b_of := bOF
    F_names := FNM, b_names := bNM
    F_item := FGT, b_item := bGT
    F_len := FLN, b_len := bLN
    F_bool := FBL, b_bool := bBL
    F_add := FAD, b_add := bAD
    F_sub := FSB, b_sub := bSB
    F_neg := FNG, b_neg := bNG
    F_mul := FML, b_mul := bML
    F_dot := FDT, b_dot := bDT
    F_eq := FEQ, b_eq := bEQ
    kb_dot := kbDT
    g_Vector := PySem.W.mg_of X G aC
    mk_V := ⟨mkC, fiI, fnI, kpC⟩
    c_V := ⟨pg, hd, po, sa⟩
    n_num := nn
    sF := sF
    O_add := ⟨by rw [dun_add]; exact fiAD, fnAD⟩
    O_sub := ⟨by rw [dun_sub]; exact fiSB, fnSB⟩
    O_mul := ⟨by rw [dun_mul]; exact fiML, fnML⟩
    O_neg := ⟨fiNG, fnNG⟩
    O_eq := ⟨fiEQ, fnEQ⟩
    O_len := ⟨fiLN, fnLN⟩
    O_bool := ⟨fiBL, fnBL⟩
    O_item := ⟨fiGT, fnGT⟩
    fn_item := fnGTi
    n_rmul := by rw [dun_rmul]; exact nrm
    i_mul := by rw [dun_mul]; exact imu
    i_rmul := by rw [dun_rmul]; exact irm
    i_sub := isb
    rd_V := ⟨rd, rga⟩
    cm_of := ⟨cmat, ⟨_, cmrc⟩, cmfi⟩
    p_names := ⟨pnat, pnget, pntak, ⟨_, pnrec⟩⟩
    m_dot := ⟨fiDT, fnDT, kDT⟩
    nf_V := nf
    ca := ca
    cn := cn
    ctk := ctk
    cm := cm }
  exact ⟨_, fun s v => .of_eq rfl, fun base _ _ => ok_law V (fun_mk (st := s_law) lLaw cLaw kLaw)⟩

end K4
open PySem PySem.W PyProof.Rows
set_option maxRecDepth 100000 in
set_option maxHeartbeats 0 in
theorem PySem.Challenge.cw_evenends_k04_vectors_added_and_multiplie_holds : PySem.Challenge.rw_evenends_k04_vectors_added_and_multiplie.Holds := by
  w_on; o_law; k_head; (case hw => w_witness2)
  k_fill
  refine EvG.walkG (x := "_law_script") (k := 11) (n := 63) (sp := K4.spLaw) (l := PySem.Challenge.rw_evenends_k04_vectors_added_and_multiplie) rfl (by decide) rfl ⟨rfl, by decide, by decide⟩ (fun w h Y => PySem.W.kIn_of Y) ?F (fun K H a ns hl _ hS => ⟨a, ns, rfl, hS, hl, fun _ => rfl⟩)
  case F =>
    intro w mg fa h KX G hmg
    refine' K4.all_mk KX G hmg ?aIN ?lIN ?cIN ?kIN ?aII ?lII ?cII ?kII ?aGI ?lGI ?cGI ?kGI ?aKN ?lKN ?cKN ?kKN ?aPL ?lPL ?cPL ?kPL ?aLP ?lLP ?cLP ?kLP ?aLD ?lLD ?cLD ?kLD ?aLK ?lLK ?cLK ?kLK ?aLG ?lLG ?cLG ?kLG ?aLW ?lLW ?cLW ?kLW ?aLB ?lLB ?cLB ?kLB ?aLS ?lLS ?cLS ?kLS ?aLT ?lLT ?cLT ?kLT ?aLaw ?lLaw ?cLaw ?kLaw ?aC ?mkC ?kpC ?pg ?hd ?po ?sa ?nn ?sF ?rd ?rga ?cmat ?cmrc ?cmfi ?pnat ?pnget ?pntak ?pnrec ?fiI ?fnI ?lI ?cI ?kI ?lOF ?cOF ?kOF ?lNM ?cNM ?kNM ?fiGT ?fnGT ?lGT ?cGT ?kGT ?fiLN ?fnLN ?lLN ?cLN ?kLN ?fiBL ?fnBL ?lBL ?cBL ?kBL ?fiAD ?fnAD ?lAD ?cAD ?kAD ?fiSB ?fnSB ?lSB ?cSB ?kSB ?fiNG ?fnNG ?lNG ?cNG ?kNG ?fiML ?fnML ?lML ?cML ?kML ?fiDT ?fnDT ?lDT ?cDT ?kDT ?fiEQ ?fnEQ ?lEQ ?cEQ ?kEQ ?fnGTi ?nrm ?imu ?irm ?isb ?nf ?ca ?cn ?ctk ?cm ?z_int ?z_bool ?z_str ?z_len ?z_isinstance ?z_dict ?z_all ?z_sum ?z_sorted ?z_set ?z_list ?z_tuple ?z_range ?z_abs ?z_repr
    (case aIN => k_is)
    (case lIN => k_is)
    (case cIN => k_is)
    (case kIN => k_is)
    (case aII => k_is)
    (case lII => k_is)
    (case cII => k_is)
    (case kII => k_is)
    (case aGI => k_is)
    (case lGI => k_is)
    (case cGI => k_is)
    (case kGI => k_is)
    (case aKN => k_is)
    (case lKN => k_is)
    (case cKN => k_is)
    (case kKN => k_is)
    (case aPL => k_is)
    (case lPL => k_is)
    (case cPL => k_is)
    (case kPL => k_is)
    (case aLP => k_is)
    (case lLP => k_is)
    (case cLP => k_is)
    (case kLP => k_is)
    (case aLD => k_is)
    (case lLD => k_is)
    (case cLD => k_is)
    (case kLD => k_is)
    (case aLK => k_is)
    (case lLK => k_is)
    (case cLK => k_is)
    (case kLK => k_is)
    (case aLG => k_is)
    (case lLG => k_is)
    (case cLG => k_is)
    (case kLG => k_is)
    (case aLW => k_is)
    (case lLW => k_is)
    (case cLW => k_is)
    (case kLW => k_is)
    (case aLB => k_is)
    (case lLB => k_is)
    (case cLB => k_is)
    (case kLB => k_is)
    (case aLS => k_is)
    (case lLS => k_is)
    (case cLS => k_is)
    (case kLS => k_is)
    (case aLT => k_is)
    (case lLT => k_is)
    (case cLT => k_is)
    (case kLT => k_is)
    (case aLaw => k_is)
    (case lLaw => k_is)
    (case cLaw => k_is)
    (case kLaw => k_is)
    (case aC => k_is)
    (case mkC => k_is)
    (case kpC => k_is)
    (case pg => k_is)
    (case hd => k_is)
    (case po => k_is)
    (case sa => k_is)
    (case nn => k_is)
    (case sF => k_is)
    (case rd => k_is)
    (case rga => k_is)
    (case cmat => k_is)
    (case cmrc => k_is)
    (case cmfi => k_is)
    (case pnat => k_is)
    (case pnget => k_is)
    (case pntak => k_is)
    (case pnrec => k_is)
    (case fiI => k_is)
    (case fnI => k_is)
    (case lI => k_is)
    (case cI => k_is)
    (case kI => k_is)
    (case lOF => k_is)
    (case cOF => k_is)
    (case kOF => k_is)
    (case lNM => k_is)
    (case cNM => k_is)
    (case kNM => k_is)
    (case fiGT => k_is)
    (case fnGT => k_is)
    (case lGT => k_is)
    (case cGT => k_is)
    (case kGT => k_is)
    (case fiLN => k_is)
    (case fnLN => k_is)
    (case lLN => k_is)
    (case cLN => k_is)
    (case kLN => k_is)
    (case fiBL => k_is)
    (case fnBL => k_is)
    (case lBL => k_is)
    (case cBL => k_is)
    (case kBL => k_is)
    (case fiAD => k_is)
    (case fnAD => k_is)
    (case lAD => k_is)
    (case cAD => k_is)
    (case kAD => k_is)
    (case fiSB => k_is)
    (case fnSB => k_is)
    (case lSB => k_is)
    (case cSB => k_is)
    (case kSB => k_is)
    (case fiNG => k_is)
    (case fnNG => k_is)
    (case lNG => k_is)
    (case cNG => k_is)
    (case kNG => k_is)
    (case fiML => k_is)
    (case fnML => k_is)
    (case lML => k_is)
    (case cML => k_is)
    (case kML => k_is)
    (case fiDT => k_is)
    (case fnDT => k_is)
    (case lDT => k_is)
    (case cDT => k_is)
    (case kDT => k_is)
    (case fiEQ => k_is)
    (case fnEQ => k_is)
    (case lEQ => k_is)
    (case cEQ => k_is)
    (case kEQ => k_is)
    (case fnGTi => k_is)
    (case nrm => k_is)
    (case imu => k_is)
    (case irm => k_is)
    (case isb => k_is)
    (case nf => k_is)
    (case ca => k_is)
    (case cn => k_is)
    (case ctk => k_is)
    (case cm => k_is)
    (case z_int => k_is)
    (case z_bool => k_is)
    (case z_str => k_is)
    (case z_len => k_is)
    (case z_isinstance => k_is)
    (case z_dict => k_is)
    (case z_all => k_is)
    (case z_sum => k_is)
    (case z_sorted => k_is)
    (case z_set => k_is)
    (case z_list => k_is)
    (case z_tuple => k_is)
    (case z_range => k_is)
    (case z_abs => k_is)
    (case z_repr => k_is)
