import PyProof.Rows.All
import Wide.All
import OpenK.AllK
import Wide.FinOn
import HandS.ForMost
import HandS.IsInst
import HandS.StrMore
import HandS.Steps
import HandS.Walk
import HandS.ExcInit
import HandS.ExcOwn
import HandS.ExcField
import HandS.ExcValue
import HandS.ListItems
import PyProof.EnumIter
import PyProof.EnumMake
import PyProof.EnumStmt
import KE.KItemsList
import KE.KExcInit
import KE.KExcIs
import KE.KExcLine
import PySem.Challenge.RW_evenends_k01_errors_and_their_fields
set_option Elab.async false
set_option linter.all false
set_option maxRecDepth 100000
set_option maxHeartbeats 4000000

/-! Defs that may show data: their promise is asked where no object is being shown (no guard is set). -/
namespace EvG
open PySem PySem.Spec PyProof.Rows L2

/-- a def's promise, asked only where nothing is being shown -/
structure FnG (P : Program) (w : World) (K : PySem.W.Frag) (mg : Str → Option Value) (base : Heap) (CX : CXT) (k : Nat) (f : Addr) (fd : FuncData) (ps : List Str) (sp : Sp) : Prop where
  len : ∀ vs H Q E, sp vs H Q E → vs.length = ps.length
  go : ∀ (A : Around) (outer : List Env) (s : Shared) (H : Hp) (args : Args) (us : List Value) (vs : List V) (Q : VK) (E : XK), A.guards = some [] → Room k A → Env0 P w K mg base A outer s H →
    BindsTo s fd args (ps.zip us) → Vals vs us → sp vs H Q E → codeAny (model P w) A (.call (.ref f) args) (CR CX outer P w H s Q E) s

section
variable {P : Program} {w : World} {K : PySem.W.Frag} {mg : Str → Option Value} {base : Heap} {CX : CXT} {k : Nat} {f : Addr} {fd : FuncData} {ps : List Str} {sp : Sp}
theorem FnG.of (F : FnOk P w K mg base CX k f fd ps sp) : FnG P w K mg base CX k f fd ps sp :=
  ⟨F.len, fun A outer s H args us vs Q E _ hr e0 hb r h => F.run A outer s H args us vs Q E hr e0 hb r h⟩
theorem FnG.mono {j : Nat} (F : FnG P w K mg base CX j f fd ps sp) (h : j ≤ k) : FnG P w K mg base CX k f fd ps sp :=
  ⟨F.len, fun A outer s H args us vs Q E g hr e0 hb r q => F.go A outer s H args us vs Q E g (hr.mono h) e0 hb r q⟩
end

theorem endG {P : Program} {w : World} {outer : List Env} {s : Shared} {H : Hp} {Q : VK} {X : Cx} {σ : L2.St} {H' : Hp} {s' : Shared} {v : V} {u : Value} (J : Inv X [] σ H' s') (rv : RelV v u) (q : Q v H')
    (eP : X.prog = P) (ew : X.w = w) (eo : X.outer = outer) (es : X.s_0 = s) (ex : X.ex = []) (eH : X.H_0 = H) : CE outer P w H s Q u s' := by
  subst eP; subst ew; subst eo; subst es; subst eH
  have b := J.base
  rw [ex] at b
  exact ⟨v, H', J.os, J.bare, b, J.hok, rv, q⟩

/-- a def of the text keeps its promise by its body, nothing being shown -/
theorem fnG {P : Program} {w : World} {K : PySem.W.Frag} {mg : Str → Option Value} {base : Heap} {x qual : Str} {st : Stmt} {f : Addr} {fd : FuncData} {N ps : List Str} {k : Nat} {sp : Sp}
    (F : Fun K x qual st f fd) (S : FnScope N ps (defScope st)) (len : ∀ vs H Q E, sp vs H Q E → vs.length = ps.length)
    (body : ∀ (cdv : Value) (A : Around) (outer : List Env) (s : Shared) (H : Hp) (vs : List V) (Q : VK) (E : XK), A.guards = some [] → Room k (A.deeper (envOfC qual (defScope st) s.heap.objs.size f cdv)) → sp vs H Q E →
      ∃ t, PSs (cxOf CX0 P w K mg base N qual (defScope st) f cdv A outer s H E).nox (defBody st) t ∧ t { nx := fun _ H' => Q .non H', rt := Q } (start N vs) H) : FnG P w K mg base CX0 (k + 1) f fd ps sp := by
  obtain ⟨oc, od, kV, doc, pm, an, cdv, ct, osl, rfl, lk, hcd⟩ := F.ex
  refine ⟨len, ?_⟩
  intro A outer s H args us vs Q E hg room env0 hbind rv asked
  have many : vs.length = ps.length := len vs H Q E asked
  have inK : K.In s.heap := env0.mod.kin.keeps fun c o h => (env0.bs c o h).1
  have noL : s.heap.NoLimit := env0.mod.nolimit.keeps fun c o h => (env0.bs c o h).1
  have kinds : ∀ y ∈ ps.zip us, (defScope st).names.lookup y.1 = some .local ∨ ((defScope st).names.lookup y.1 = some .cell ∧ ((cellsFrom (s.heap.objs.size + 1) (defScope st).names []).lookup y.1).isSome = true) := by
    rintro ⟨n, v⟩ hy
    cases S.par n (List.of_mem_zip hy).1 with
    | inl q => exact Or.inl q
    | inr q => exact Or.inr ⟨q, PySem.W.cellsFrom_some _ _ _ (Or.inl q)⟩
  refine codeAny_call_function room.depth (inK _ _ lk) rfl S.co S.gen rfl (PySem.W.codeRec_of inK hcd) (hbind _ _ _ _ ?_)
  refine wpAny_newFunctionEnv_cells S.kind kinds fun env he s1 inC => ?_
  cases he
  refine ⟨noL.keeps inC.toInCall.keep, codeAny_func ?_⟩
  obtain ⟨t, tree, read⟩ := body cdv A outer s H vs Q E hg (room.deeper _) asked
  have I0 : Inv (cxOf CX0 P w K mg base N qual (defScope st) f cdv A outer s H E) [] (start N vs) H s1 := inv_start S room.hd env0 many rv inC
  refine wpAny_mono (tree.nox.run [] s1 (start N vs) H _ I0 read) (fun fl s' hs => ?_) (fun e s' hs => hs)
  cases fl with
  | next =>
    obtain ⟨τ, G, J, q⟩ := hs
    exact endG (v := V.non) (u := Value.none) J rfl q rfl rfl rfl rfl rfl rfl
  | ret u =>
    obtain ⟨v, τ, G, J, r, q⟩ := hs
    exact endG J r q rfl rfl rfl rfl rfl rfl
  | brk =>
    obtain ⟨_, _, _, q⟩ := hs
    exact q.elim
  | cont =>
    obtain ⟨_, _, _, q⟩ := hs
    exact q.elim

section
variable {X : Cx} {CX : CXT} {k : Nat} {f : Addr} {fd : FuncData} {ps : List Str} {sp : Sp} {dvs : List V} {ds : List Value} {E : XK} {x : Str} {p pos : Pos} {e : Expr} {es : List Expr} {t : TA}
theorem runG {pins : List (Addr × Obj)} {σ : L2.St} {H : Hp} {s : Shared} {Q : VK} {us : List Value} {vs : List V} (F : FnG X.prog X.w X.K X.mg X.base CX k f fd ps sp) (hg : X.A.guards = some []) (hr : Room k X.A) (hb : Binds X.K fd ps ds) (hd : Vals dvs ds) (hx : Passes CX X E)
    (I : Inv X pins σ H s) (r : Vals vs us) (h : sp (vs ++ dvs) H Q E) : wpAny (model X.prog X.w) X.A (call (.ref f) us) (EP X pins σ Q) X.xe s := by
  have rr : Vals (vs ++ dvs) (us ++ ds) := r.append hd
  have hl : (us ++ ds).length = ps.length := rr.length.symm.trans (F.len _ _ _ _ h)
  refine wpAny_call (codeAny_mono (F.go X.A X.stack s H ⟨us, []⟩ (us ++ ds) (vs ++ dvs) Q E hg hr I.env0 (hb s us I.kIn hl) rr h) (fun res s' hq => ?_))
  cases res with
  | error e => exact hx pins σ H s e s' I hq
  | ok fl =>
    cases fl with
    | ret u => exact I.after hq
    | next => exact hq.elim
    | brk => exact hq.elim
    | cont => exact hq.elim
/-- f(e, ..), f such a def -/
theorem pe_callG (F : FnG X.prog X.w X.K X.mg X.base CX k f fd ps sp) (g : X.A.guards = some []) (hr : Room k X.A) (hg : Gl X x) (hm : X.mg x = some (.ref f)) (hk : PySem.W.keepIn X.K (.ref f) = true) (hb : Binds X.K fd ps ds) (hd : Vals dvs ds) (hx : Passes CX X E)
    (ha : PA X (e :: es) t) (hdb : (x == ("__debug__" : Str)) = false := by decide) (he : starEach (e :: es) X.env = (false, eval e X.env) :: starEach es X.env := by rfl) (hpl : (backTo pos (starEach es X.env)).any (·.1) = false := by rfl) :
    PE X (.Call (.Name x p) (e :: es) [] pos) (tCall sp dvs E t) := by
  constructor
  intro pins s σ H Q I h
  apply wpAny_Call_Name_kw
  refine ld_glob I hg hm ?_ hdb
  refine PySem.W.callWith_K (h₀ := X.base) I.ok.mod.kin hk ?_ he hpl
  refine thn (ha.run pos pins s σ H _ I h) ?_
  rintro us s1 ⟨vs, H1, I1, r, q⟩
  exact ⟨I1.kIn, runG F g hr hb hd hx I1 r q⟩
end

/-! ### repr of data -/
section
variable {X : Cx}
/-- what may be shown: d is what v holds, without dicts -/
def rRepr (K : PySem.W.Frag) : List V → Hp → VK → Prop := fun xs H Q => ∃ (a : Addr) (d : PyData), xs = [.ref a] ∧ Dp K H (.ref a) d ∧ d.showable = true ∧ d.hasDict = false ∧ d.depth ≤ 40 ∧ d.shown.length ≤ sizeLine ∧ Q (.str d.shown) H
theorem call_repr (g : X.A.guards = some []) (hu : X.A.units + 64 < cLine) : CallR X (.builtin "repr") (rRepr X.K) := by
  intro pins s σ H xs us Q I r h
  obtain ⟨a, d, rfl, hd, sh, nd, dep, sz, q⟩ := h
  obtain ⟨u, rfl, ru⟩ : ∃ u, us = [u] ∧ RelV (.ref a) u := by
    cases r with
    | cons r1 r2 =>
      cases r2
      exact ⟨_, rfl, r1⟩
  obtain ⟨as, rd⟩ := Dp.reads I d _ u hd ru
  obtain rfl : u = Value.ref a := ru
  refine repr_of_reads' rd sh (fun z => by rw [nd] at z; cases z) g (by omega) (fun _ _ e => e) (fun h' u tk k => ?_) sz
  exact ⟨.str d.shown, H, I.kept k, ⟨_, rfl⟩, q⟩
end
end EvG

/-! ### the law's call where nothing is shown -/
namespace EvG
open PySem PySem.Spec PyProof.Rows L2
/-- the module's facts stay where only the script is put aside -/
theorem hidden_mod {s₁ : Shared} {K : PySem.W.Frag} {mg mb : Str → Option Value} {H : Hp} (KX : K.In s₁.heap) (hns : s₁.heap.Ns mainGlobals mg) (hb : s₁.heap.Ns builtinsNs mb) (hbb : ∀ x : Str, x ≠ "__name__" → mb x = bootBuiltins x) (hlim : s₁.heap.NoLimit)
    (free : ∀ b o, s₁.heap.get? b = some o → (∃ es ep, o.data = Data.dict es ep) → H b = none) (freeK : ∀ b o, K.lookup b = some o → H b = none) : Mod K mg (hidT s₁.heap H) := by
  have ns : ∀ (b : Addr) (m : Str → Option Value), s₁.heap.Ns b m → (hidT s₁.heap H).Ns b m := by
    rintro b m ⟨o, es, ep, e, d, r⟩
    exact ⟨o, es, ep, hidT_get e (free b o e ⟨es, ep, d⟩), d, r⟩
  refine ⟨?_, ns _ _ hns, ⟨mb, ns _ _ hb, hbb⟩, ?_⟩
  · intro b o e
    exact hidT_get (KX b o e) (freeK b o e)
  · obtain ⟨mc, h1, h2⟩ := hlim
    exact ⟨mc, ns _ _ h1, h2⟩

theorem callG {P : Program} {w : World} {K : PySem.W.Frag} {mg mb : Str → Option Value} {k : Nat} {fa a : Addr} {fd : FuncData} {x : Str} {sp : Sp} {s₁ : Shared} {vs : List Value} {ns : List Int}
    (KX : K.In s₁.heap) (hns : s₁.heap.Ns mainGlobals mg) (hb : s₁.heap.Ns builtinsNs mb) (hbb : ∀ x : Str, x ≠ "__name__" → mb x = bootBuiltins x) (hlim : s₁.heap.NoLimit) (hg : s₁.gens = #[])
    (ha : s₁.heap.get? a = some { cls := .type "list", data := .seq vs.toArray }) (hi : IntsAre vs ns) (hl : ns.length ≤ sizeLine) (hr : Room k callerA)
    (F : ∀ base : Heap, K.In base → base.Ns mainGlobals mg → FnG P w K mg base CX0 k fa fd [x] sp) (hbind : ∀ (s : Shared) (u : Value), BindsTo s fd ⟨[u], []⟩ [(x, u)])
    (hsp : ∀ H : Hp, Only H → SqL K H a (ns.map V.int) → sp [.ref a] H (fun v _ => v = .bl true) fun _ _ _ => False) :
    codeAny (model P w) callerA (.call (.ref fa) ⟨[.ref a], []⟩) (fun r s' => r = .ok (.ret (.bool true)) ∧ OldK s₁.heap s'.heap ∧ s'.os = s₁.os ∧ AllBare s'.gens) s₁ := by
  have rv := vals_ints hi
  have sizes := hi.length
  have main : ∀ H : Hp, Only H → SqL K H a (ns.map V.int) → HOk P w H s₁.heap → (∀ b o, s₁.heap.get? b = some o → (∃ es ep, o.data = Data.dict es ep) → H b = none) → (∀ b o, K.lookup b = some o → H b = none) →
      codeAny (model P w) callerA (.call (.ref fa) ⟨[.ref a], []⟩) (fun r s' => r = .ok (.ret (.bool true)) ∧ OldK s₁.heap s'.heap ∧ s'.os = s₁.os ∧ AllBare s'.gens) s₁ := by
    intro H only seq ok fr fk
    have M := hidden_mod (H := H) KX hns hb hbb hlim fr fk
    have e0 : Env0 P w K mg (hidT s₁.heap H) callerA [] s₁ H := by
      refine ⟨rfl, M, fun b o e => of_hidT e, Nat.le_of_eq (hidT_size _ _), trivial, fun b z => ?_, ok, .of_eq hg⟩
      have z' : b ∈ ([] : List Addr) := z
      cases z'
    refine codeAny_mono ((F _ M.kin M.glob).go callerA [] s₁ H ⟨[.ref a], []⟩ [.ref a] [.ref a] _ _ rfl hr e0 (hbind s₁ (.ref a)) (.cons rfl .nil) (hsp H only seq)) ?_
    intro res s' q
    cases res with
    | error e => exact q.elim
    | ok fl =>
      cases fl with
      | next => exact q.elim
      | brk => exact q.elim
      | cont => exact q.elim
      | ret u =>
        obtain ⟨v, H', os, bare, un, ok', r', hv⟩ := q
        obtain rfl : v = .bl true := hv
        obtain rfl : u = Value.bool true := r'
        refine ⟨rfl, OldK.of_keep ?_, os, bare⟩
        intro b o e
        have nin : b ∉ frs ([] : List Env) := fun z => by
          have z' : b ∈ ([] : List Addr) := z
          cases z'
        rcases only b with z | ⟨ob, xs, z⟩
        · exact un.keep b o e z nin (by simp)
        · have e1 := (ok b _ z).1
          have e2 := (ok' b _ (un.frzs b ob _ z)).1
          rw [e] at e1
          cases e1
          exact e2
  by_cases hk : ∃ o, K.lookup a = some o
  · obtain ⟨o, ho⟩ := hk
    have e := KX a o ho
    rw [ha] at e
    cases e
    refine main (fun _ => none) (fun _ => .inl rfl) (.inr ⟨_, vs.toArray, _, ho, rfl, rfl, rfl, ?_, ?_⟩) (fun b u z => ?_) (fun _ _ _ _ => rfl) (fun _ _ _ => rfl)
    · rw [List.size_toArray, sizes]
      exact hl
    · simpa using rv
    · have z' : (none : Option HO) = some u := z
      cases z'
  · have hn : K.lookup a = none := by
      cases q : K.lookup a with
      | none => rfl
      | some o => exact absurd ⟨o, q⟩ hk
    let G : Hp := fun b => if b = a then some (.frz { cls := .type "list", data := .seq vs.toArray } (.lst (ns.map V.int))) else none
    have Ga : G a = some (.frz { cls := .type "list", data := .seq vs.toArray } (.lst (ns.map V.int))) := if_pos rfl
    have Gn : ∀ b, b ≠ a → G b = none := fun b h => if_neg h
    refine main G (fun b => ?_) (.inl (.inr ⟨_, Ga⟩)) (fun b u z => ?_) (fun b o e d => ?_) (fun b o e => ?_)
    · by_cases h : b = a
      · subst h
        exact .inr ⟨_, _, Ga⟩
      · exact .inl (Gn b h)
    · by_cases h : b = a
      · subst h
        rw [Ga] at z
        cases z
        refine ⟨ha, ?_, vs, _, rv, ha⟩
        rw [List.length_map]
        exact hl
      · rw [Gn b h] at z
        cases z
    · refine Gn b fun h => ?_
      subst h
      rw [ha] at e
      cases e
      obtain ⟨es, ep, d⟩ := d
      cases d
    · refine Gn b fun h => ?_
      subst h
      rw [hn] at e
      cases e

/-- the end of a law whose def may show data -/
theorem walkG {l : PySem.W.OpenLaw} {n k : Nat} {q : Program} {loose : List Str} {XP : (Str → Option Value) → Heap → Prop} {YP : World → Heap → Prop} {d : DefRec} {K : Params → PySem.W.Frag} {sp : PySem.W.Frag → Sp} {x : Str}
    (hn : l.most = some n) (hn2 : n ≤ sizeLine) (hdf : d.params.defaults = []) (hr : Room k callerA) (hY : ∀ (w : World) (h : Heap), YP w h → (K w.params).In h)
    (F : ∀ (w : World) (mg : Str → Option Value) (fa : Addr) (h : Heap), (K w.params).In h → h.Ns mainGlobals mg → mg d.name = some (.ref fa) →
      ∃ fd : FuncData, (∀ (s : Shared) (u : Value), BindsTo s fd ⟨[u], []⟩ [(x, u)]) ∧ ∀ base : Heap, (K w.params).In base → base.Ns mainGlobals mg → FnG l.prog w (K w.params) mg base CX0 k fa fd [x] (sp (K w.params)))
    (hsp : ∀ (K : PySem.W.Frag) (H : Hp) (a : Addr) (ns : List Int), ns.length ≤ n → Only H → SqL K H a (ns.map V.int) → sp K [.ref a] H (fun v _ => v = .bl true) fun _ _ _ => False) :
    PySem.W.WalkO q loose XP YP l.row.toRowW d [] (fun f vs => PySem.call f vs) := by
  refine Att.attach_call hn hdf ?_
  intro w s₀ s₁ mg mb fa o pm cd doc a vs ns G Y ho hd hcd hmg hobj hints hlen hg
  have KX := hY w _ Y
  obtain ⟨fd, hb, hF⟩ := F w mg fa _ KX G.T.g hmg
  exact callG KX G.T.g G.T.b G.T.builtins G.T.nolimit hg hobj hints (Nat.le_trans hlen hn2) hr hF hb fun H only seq => hsp _ H a ns hlen only seq
end EvG

/-! Readings, one step a lemma; the steps are found by the head of the goal. -/
namespace EvG
open PySem PySem.Spec PyProof.Rows L2
section
variable {σ : L2.St} {H : Hp} {Q : VK} {QB : Bool → Hp → Prop} {QA : List V → Hp → Prop} {QO : Option Int → Hp → Prop} {QS : L2.St → Hp → Prop} {i : Nat} {v x y : V} {ta tb tc te : TE} {t u : TT} {tr tk : TA} {tl th : TO} {r : R2} {D : Ends} {t1 t2 ts : TS} {g : TG}
theorem g_var (h : σ[i]? = some (some v)) (q : Q v H) : tVar i σ H Q := ⟨v, h, q⟩
theorem g_c (q : Q v H) : tC v σ H Q := q
theorem g_op (h : ta σ H fun x H1 => tb σ H1 fun y H2 => r x y H2 Q) : tOp r ta tb σ H Q := h
theorem g_un {r : V → Hp → VK → Prop} (h : ta σ H fun x H1 => r x H1 Q) : tUn r ta σ H Q := h
theorem g_neg {i : Int} (h : Q (.int (-i)) H) : rU (fun i => .int (-i)) (.int i) H Q := ⟨i, rfl, h⟩
theorem g_I0 {f : Int → Int → V} {i j : Int} (q : Q (f i j) H) : rI0 f (.int i) (.int j) H Q := ⟨i, j, rfl, rfl, q⟩
theorem g_I {C : Int → Int → Prop} {f : Int → Int → V} {i j : Int} (c : C i j) (q : Q (f i j) H) : rI C f (.int i) (.int j) H Q := ⟨i, j, rfl, rfl, c, q⟩
theorem g_eq (h : scal x y = true) (q : Q (.bl (decide (x = y))) H) : rEq x y H Q := ⟨h, q⟩
theorem g_ne (h : scal x y = true) (q : Q (.bl (!decide (x = y))) H) : rNe x y H Q := ⟨h, q⟩
theorem g_test {te : TE} (h : te σ H fun x H' => ∃ k, x = .bl k ∧ QB k H') : tTest te σ H QB := h
theorem g_B {te : TE} (h : te σ H fun x H' => ∃ k, x = .bl k ∧ QB k H') : tB te σ H QB := h
theorem g_bl {k : Bool} {W : Bool → Prop} (q : W k) : ∃ k', V.bl k = .bl k' ∧ W k' := ⟨k, rfl, q⟩
theorem g_and (h : t σ H fun c H1 => if c = true then u σ H1 QB else QB false H1) : tAnd t u σ H QB := h
theorem g_or (h : t σ H fun c H1 => if c = true then QB true H1 else u σ H1 QB) : tOr t u σ H QB := h
theorem g_not (h : t σ H fun c H1 => QB (!c) H1) : tNot t σ H QB := h
theorem g_andV (h : ta σ H fun x H1 => ∃ c, x = .bl c ∧ if c = true then tb σ H1 Q else Q (.bl false) H1) : tAndV ta tb σ H Q := h
theorem g_orV (h : ta σ H fun x H1 => ∃ c, x = .bl c ∧ if c = true then Q (.bl true) H1 else tb σ H1 Q) : tOrV ta tb σ H Q := h
theorem g_notV (h : ta σ H fun x H1 => ∃ c, x = .bl c ∧ Q (.bl (!c)) H1) : tNotV ta σ H Q := h
theorem g_ifx (h : t σ H fun c H1 => if c = true then ta σ H1 Q else tb σ H1 Q) : tIf t ta tb σ H Q := h
theorem g_cons (h : te σ H fun x H1 => tr σ H1 fun xs H2 => QA (x :: xs) H2) : tCons te tr σ H QA := h
theorem g_nil (q : QA [] H) : tNil σ H QA := q
theorem g_cb {r : List V → Hp → VK → Prop} (h : tr σ H fun vs H1 => r vs H1 Q) : tCB r tr σ H Q := h
theorem g_call {sp : Sp} {dvs : List V} {E : XK} (h : tr σ H fun vs H1 => sp (vs ++ dvs) H1 Q E) : tCall sp dvs E tr σ H Q := h
theorem g_callK {sp : Sp} {gV : List V → List V → List V} {E : XK} (h : tr σ H fun vs H1 => tk σ H1 fun zs H2 => sp (gV vs zs) H2 Q E) : L2.tCallK sp gV E tr tk σ H Q := h
theorem g_tup (h : tr σ H fun xs H1 => xs.length ≤ sizeLine ∧ ∀ p, H1 p = none → Q (.ref p) (upd H1 p (.tup xs))) : tTup tr σ H Q := h
theorem g_lst (h : tr σ H fun xs H1 => xs.length ≤ sizeLine ∧ ∀ p, H1 p = none → Q (.ref p) (upd H1 p (.lst xs))) : tLst tr σ H Q := h
theorem g_sl {r : V → Option Int → Option Int → Hp → VK → Prop} (h : te σ H fun x H1 => tl σ H1 fun l H2 => th σ H2 fun u H3 => r x l u H3 Q) : tSl r te tl th σ H Q := h
theorem g_part (h : te σ H fun x H1 => ∃ i, x = .int i ∧ QO (some i) H1) : tPart te σ H QO := h
theorem g_nopart (q : QO none H) : tNoPart σ H QO := q
theorem g_seq (h : t1 { D with nx := t2 D } σ H) : tSeq t1 t2 D σ H := h
theorem g_next (q : D.nx σ H) : tNext D σ H := q
theorem g_asg (h : te σ H fun x H1 => g x σ H1 D.nx) : tAsg te g D σ H := h
theorem g_name (q : QS (σ.set i (some v)) H) : gName i v σ H QS := q
theorem g_sub {to ti : TE} {t : TSet} (h : to σ H fun o H1 => ti σ H1 fun i H2 => t o i v H2 fun H3 => QS σ H3) : gSub to ti t v σ H QS := h
theorem g_ret (h : te σ H D.rt) : tRet te D σ H := h
theorem g_retN (h : D.rt .non H) : tRetN D σ H := h
theorem g_drop (h : te σ H fun _ H1 => D.nx σ H1) : tDrop te D σ H := h
theorem g_ifs {c : TT} (h : c σ H fun b H1 => if b = true then t1 D σ H1 else t2 D σ H1) : tIfS c t1 t2 D σ H := h
theorem g_yes (q : QB true H) : tYes σ H QB := q
theorem g_m0 {r : V → List V → Hp → VK → Prop} {K : PySem.W.Frag} {T : String} (h : te σ H fun x H1 => tyV K T x H1 ∧ r x [] H1 Q) : tBM0 K T r te σ H Q := h
/-- items of lists and tuples that stand -/
theorem g_ixL {K : PySem.W.Frag} {p : Addr} {xs : List V} {i : Int} (h : SqL K H p xs) (ha : atI xs i = some v) (q : Q v H) : rIxL K (.ref p) (.int i) H Q := ⟨p, xs, i, v, rfl, rfl, h, ha, q⟩
theorem g_ixT {K : PySem.W.Frag} {p : Addr} {xs : List V} {i : Int} (h : SqT K H p xs) (ha : atI xs i = some v) (q : Q v H) : rIxT K (.ref p) (.int i) H Q := ⟨p, xs, i, v, rfl, rfl, h, ha, q⟩
theorem g_ixS {z : Str} {i : Int} {c : Nat} (h : z.length ≤ sizeLine) (ha : atI z.cps.toList i = some c) (q : Q (.str ⟨#[c]⟩) H) : rIxS (.str z) (.int i) H Q := ⟨z, i, c, rfl, rfl, h, ha, q⟩
theorem g_setL {p : Addr} {xs : List V} {k : Int} {j : Nat} {QH : Hp → Prop} (h : H p = some (.lst xs)) (hj : ixN xs.length k = some j) (q : QH (upd H p (.lst (xs.set j v)))) : rSetL (.ref p) (.int k) v H QH := ⟨p, xs, k, j, rfl, rfl, h, hj, q⟩
theorem g_true {A B : Prop} {b : Bool} (h : b = true) (q : A) : if b = true then A else B := by
  rw [if_pos h]
  exact q
theorem g_false {A B : Prop} {b : Bool} (h : b = false) (q : B) : if b = true then A else B := by
  rw [if_neg (by rw [h]; exact Bool.false_ne_true)]
  exact q
theorem g_rng1 {ta : TA} {R : It → Hp → Prop} (h : ta σ H fun vs H1 => ∃ j : Int, vs = [.int j] ∧ -(2 ^ 62) ≤ j ∧ j < 2 ^ 62 ∧ R (Itr 0 j.toNat) H1) : iRng1 ta σ H R := h
end
/-- the heap's lookups -/
theorem look_same {H : Hp} {a b : Addr} {o u : HO} (h : a = b) (e : o = u) : upd H b o a = some u := by
  subst h
  subst e
  exact upd_same
theorem look_past {H : Hp} {a b : Addr} {o u : HO} (n : a ≠ b) (h : H a = some u) : upd H b o a = some u := by
  rw [upd_ne n]
  exact h
theorem gone_past {H : Hp} {a b : Addr} {o : HO} (h : upd H b o a = none) : a ≠ b ∧ H a = none := by
  by_cases e : a = b
  · subst e
    rw [upd_same] at h
    cases h
  · rw [upd_ne e] at h
    exact ⟨e, h⟩

/-! ### calls of built-in names, by their values -/
section
variable {X : Cx} {H : Hp} {Q : VK} {i : Int} {K : PySem.W.Frag}
def rIntI : List V → Hp → VK → Prop := fun xs H Q => ∃ i, xs = [.int i] ∧ Q (.int i) H
def rIntB : List V → Hp → VK → Prop := fun xs H Q => ∃ k, xs = [.bl k] ∧ Q (.int (if k then 1 else 0)) H
def rAbs : List V → Hp → VK → Prop := fun xs H Q => ∃ i, xs = [.int i] ∧ Q (.int (if i < 0 then -i else i)) H
def rLenL (K : PySem.W.Frag) : List V → Hp → VK → Prop := fun xs H Q => ∃ p ys, xs = [.ref p] ∧ (SqL K H p ys ∨ SqT K H p ys) ∧ Q (.int ys.length) H
def rLenS : List V → Hp → VK → Prop := fun xs H Q => ∃ z, xs = [.str z] ∧ z.length ≤ sizeLine ∧ Q (.int z.length) H
def rListL (K : PySem.W.Frag) : List V → Hp → VK → Prop := fun xs H Q => ∃ p ys, xs = [.ref p] ∧ (SqL K H p ys ∨ SqT K H p ys) ∧ ∀ l, H l = none → Q (.ref l) (upd H l (.lst ys))
def rStrI : List V → Hp → VK → Prop := fun xs H Q => ∃ i, xs = [.int i] ∧ i.natAbs.log2 < 1920 ∧ Q (.str (toString i)) H
theorem call_intI : CallR X (.type "int") rIntI := fun pins s σ H xs us Q I r h => call_int1 pins s σ H xs us Q I r (.inl h)
theorem call_intB : CallR X (.type "int") rIntB := fun pins s σ H xs us Q I r h => call_int1 pins s σ H xs us Q I r (.inr h)
theorem call_absI : CallR X (.builtin "abs") rAbs := call_abs
theorem call_lenL : CallR X (.builtin "len") (rLenL X.K) := call_len_seq
theorem call_lenS : CallR X (.builtin "len") rLenS := call_len_str
theorem call_listL : CallR X (.type "list") (rListL X.K) := call_list_of
theorem call_strI : CallR X (.type "str") rStrI := call_str_int
theorem g_intI (q : Q (.int i) H) : rIntI [.int i] H Q := ⟨i, rfl, q⟩
theorem g_intB {k : Bool} (q : Q (.int (if k then 1 else 0)) H) : rIntB [.bl k] H Q := ⟨k, rfl, q⟩
theorem g_abs (q : Q (.int (if i < 0 then -i else i)) H) : rAbs [.int i] H Q := ⟨i, rfl, q⟩
theorem g_lenL {p : Addr} {ys : List V} (h : SqL K H p ys) (q : Q (.int ys.length) H) : rLenL K [.ref p] H Q := ⟨p, ys, rfl, .inl h, q⟩
theorem g_lenT {p : Addr} {ys : List V} (h : SqT K H p ys) (q : Q (.int ys.length) H) : rLenL K [.ref p] H Q := ⟨p, ys, rfl, .inr h, q⟩
theorem g_lenS {z : Str} (h : z.length ≤ sizeLine) (q : Q (.int z.length) H) : rLenS [.str z] H Q := ⟨z, rfl, h, q⟩
theorem g_listL {p : Addr} {ys : List V} (h : SqL K H p ys) (q : ∀ l, H l = none → Q (.ref l) (upd H l (.lst ys))) : rListL K [.ref p] H Q := ⟨p, ys, rfl, .inl h, q⟩
theorem g_strI (h : i.natAbs.log2 < 1920) (q : Q (.str (toString i)) H) : rStrI [.int i] H Q := ⟨i, rfl, h, q⟩
theorem g_eqD {x y : V} {d e : PyData} (hd : Dp K H x d) (he : Dp K H y e) (sd : SeqAt.shaped d = true) (se : SeqAt.shaped e = true) (q : Q (.bl (PyData.eqv d e)) H) : rEqD K x y H Q := ⟨d, e, hd, he, sd, se, q⟩
theorem g_neD {x y : V} {d e : PyData} (hd : Dp K H x d) (he : Dp K H y e) (sd : SeqAt.shaped d = true) (se : SeqAt.shaped e = true) (q : Q (.bl (!PyData.eqv d e)) H) : rNeD K x y H Q := ⟨d, e, hd, he, sd, se, q⟩
theorem g_slL {p : Addr} {xs : List V} {lo hi : Option Int} (h : SqL K H p xs) (q : ∀ r, H r = none → Q (.ref r) (upd H r (.lst (cutV xs lo hi)))) : rSlL K (.ref p) lo hi H Q := ⟨p, xs, rfl, h, q⟩
theorem g_slS {z : Str} {lo hi : Option Int} (h : z.length ≤ sizeLine) (q : Q (.str (cutS z lo hi)) H) : rSlS (.str z) lo hi H Q := ⟨z, rfl, h, q⟩
theorem g_rep {l : Addr} {k : Int} {xs : List V} (h : H l = some (.lst xs)) (k0 : -(2 ^ 63) ≤ k) (k1 : k < 2 ^ 63) (z : xs.length * k.toNat ≤ sizeLine) (q : ∀ p, H p = none → Q (.ref p) (upd H p (.lst (List.replicate k.toNat xs).flatten))) : rRep (.ref l) (.int k) H Q :=
  ⟨l, k, xs, rfl, rfl, h, k0, k1, z, q⟩
theorem g_cat {l b : Addr} {xs zs : List V} (h : H l = some (.lst xs)) (h2 : H b = some (.lst zs)) (z : xs.length + zs.length ≤ sizeLine) (q : ∀ p, H p = none → Q (.ref p) (upd H p (.lst (xs ++ zs)))) : rCat (.ref l) (.ref b) H Q :=
  ⟨l, b, xs, zs, rfl, rfl, h, h2, z, q⟩
theorem g_part1 {W : Int → Prop} {i : Int} (q : W i) : ∃ j, V.int i = .int j ∧ W j := ⟨i, rfl, q⟩
theorem g_rng {W : Int → Prop} {i : Int} (h0 : -(2 ^ 62) ≤ i) (h1 : i < 2 ^ 62) (q : W i) : ∃ j : Int, [V.int i] = [.int j] ∧ -(2 ^ 62) ≤ j ∧ j < 2 ^ 62 ∧ W j := ⟨i, rfl, h0, h1, q⟩
end
/-! ### int lists as data -/
theorem dp_ints {K : PySem.W.Frag} {H : Hp} : ∀ ns : List Int, DpAll K H (ns.map V.int) (ns.map PyData.int)
  | [] => .nil
  | n :: r => .cons (.int n) (dp_ints r)
theorem canInts : ∀ ns : List Int, PyData.canLayAll0 (ns.map PyData.int) = true
  | [] => by simp [PyData.canLayAll0]
  | n :: r => by
    show PyData.canLayAll0 (PyData.int n :: r.map PyData.int) = true
    simp only [PyData.canLayAll0, PyData.canLay0, canInts r, Bool.and_self]
theorem depthInts : ∀ ns : List Int, PyData.depthAll (ns.map PyData.int) ≤ 1
  | [] => by simp [PyData.depthAll]
  | n :: r => by
    show PyData.depthAll (PyData.int n :: r.map PyData.int) ≤ 1
    have ih := depthInts r
    simp only [PyData.depthAll, PyData.depth]
    omega
theorem shapedInts (ns : List Int) : SeqAt.shaped (.list (ns.map PyData.int)) = true := by
  have d := depthInts ns
  have h1 : PyData.canLay0 (.list (ns.map PyData.int)) = true := by
    simp only [PyData.canLay0]
    exact canInts ns
  have h2 : PyData.depth (.list (ns.map PyData.int)) ≤ 64 := by
    simp only [PyData.depth]
    omega
  unfold SeqAt.shaped
  rw [h1, Bool.true_and]
  exact decide_eq_true h2
theorem eqvInts0 (ns : List Int) : PyData.eqv (.list (ns.map PyData.int)) (.list []) = decide (ns = []) := by
  cases ns with
  | nil => simp [PyData.eqv, PyData.eqvAll]
  | cons a r => simp [PyData.eqv, PyData.eqvAll]

/-- the rest by what holds ahead of it -/
theorem g_cut {t u : TS} {D : Ends} {σ : L2.St} {H : Hp} (W : L2.St → Hp → Prop) (hu : ∀ σ' H', W σ' H' → u D σ' H') (ht : ∀ R : L2.St → Hp → Prop, (∀ σ' H', W σ' H' → R σ' H') → t { D with nx := R } σ H) : tSeq t u D σ H := ht (u D) hu
theorem g_new {n : Nat} {W : Prop} (h : n ≤ sizeLine) (w : W) : n ≤ sizeLine ∧ W := ⟨h, w⟩
theorem g_rt {nx bk ct : L2.St → Hp → Prop} {rt : VK} {v : V} {H : Hp} (h : rt v H) : Ends.rt { nx := nx, rt := rt, bk := bk, ct := ct } v H := h
theorem g_nx {nx bk ct : L2.St → Hp → Prop} {rt : VK} {σ : L2.St} {H : Hp} (h : nx σ H) : Ends.nx { nx := nx, rt := rt, bk := bk, ct := ct } σ H := h
theorem small_of {n : Nat} (h : n ≤ 1000000) : n ≤ sizeLine := Nat.le_trans h (by decide)

/-- a rest by a written number, its value forgotten -/
theorem g_modC {i j : Int} {H : Hp} {Q : VK} (hj : 0 < j) (q : ∀ x : Int, 0 ≤ x → x < j → Q (.int x) H) : rI (fun _ j => 0 < j) (fun i j => .int (i % j)) (.int i) (.int j) H Q :=
  ⟨i, j, rfl, rfl, hj, q _ (Int.emod_nonneg i (by omega)) (Int.emod_lt_of_pos i hj)⟩
theorem pow3_ok {x z a c e : Int} (x0 : 0 ≤ x) (x1 : x < 2147483648) (z0 : 0 ≤ z) (z1 : z ≤ 100000) (a0 : 0 ≤ a) (a1 : a ≤ 1000) (c0 : 0 ≤ c) (c1 : c ≤ 1000000) (e0 : 0 ≤ e) (e1 : e ≤ 1000) : CPow (x * (2 * z + a) + c * z * z + e) 3 := by
  have h1 : x * (2 * z + a) ≤ 2147483648 * (2 * z + a) := Int.mul_le_mul_of_nonneg_right (by omega) (by omega)
  have h2 : 0 ≤ x * (2 * z + a) := Int.mul_nonneg x0 (by omega)
  have h3 : c * z ≤ 1000000 * z := Int.mul_le_mul_of_nonneg_right c1 z0
  have h4 : 0 ≤ c * z := Int.mul_nonneg c0 z0
  have h5 : c * z * z ≤ (1000000 * 100000) * z := Int.mul_le_mul_of_nonneg_right (by omega) z0
  have h6 : 0 ≤ c * z * z := Int.mul_nonneg h4 z0
  exact ⟨by decide, by decide, by omega⟩
theorem abs_ge {i n : Int} (h : n ≤ (if i < 0 then -i else i)) (m : Int) (hm : m = if i < 0 then -i else i) : n ≤ m := by
  rw [hm]
  exact h

section
variable {X : Cx} {H : Hp} {Q : VK} {K : PySem.W.Frag} {σ : L2.St}
/-- isinstance by a written class -/
theorem g_isi {x : V} {n c : String} {b : Bool} (ty : TyX K H x (.type n)) (h : kitB n c = some b) (q : Q (.bl b) H) : rIsi K [x, .ty c] H Q := ⟨x, .ty c, .type n, .type c, b, rfl, .ty c, ty, kit_ty h, q⟩
theorem g_notInS {c : Nat} {z : Str} (q : Q (.bl (!decide (c ∈ z.cps.toList))) H) : rNotInS (.str ⟨#[c]⟩) (.str z) H Q := ⟨c, z, rfl, rfl, q⟩
theorem g_inS {c : Nat} {z : Str} (q : Q (.bl (decide (c ∈ z.cps.toList))) H) : rInS (.str ⟨#[c]⟩) (.str z) H Q := ⟨c, z, rfl, rfl, q⟩
def rTxtB (f : Str → Bool) : V → List V → Hp → VK → Prop := fun x xs H Q => ∃ a, x = .str a ∧ xs = [] ∧ True ∧ Q (.bl (f a)) H
theorem mt_isasciiB : MtR X "str.isascii" (rTxtB Txt.isascii) := mt_isascii
theorem mt_islowerB : MtR X "str.islower" (rTxtB Txt.islower) := mt_islower
theorem mt_isalphaB : MtR X "str.isalpha" (rTxtB Txt.isalpha) := mt_isalpha
theorem g_txtB {f : Str → Bool} {a : Str} (q : Q (.bl (f a)) H) : rTxtB f (.str a) [] H Q := ⟨a, rfl, rfl, trivial, q⟩
theorem g_tyS {a : Str} {W : Prop} (w : W) : tyV K "str" (.str a) H ∧ W := ⟨rfl, w⟩
theorem g_chain {r r' : R2} {ta tb tc : TE} (h : ta σ H fun x H1 => tb σ H1 fun y H2 => r x y H2 fun z H3 => ∃ k, z = .bl k ∧ (if k = true then tc σ H3 fun w' H4 => r' y w' H4 Q else Q (.bl false) H3)) : tChain r r' ta tb tc σ H Q := h
theorem op_addS : OpR X (binaryOp .Add) rAddS := op_add_str
theorem g_addS {a b : Str} (h : a.length + b.length ≤ sizeLine) (q : Q (.str (a ++ b)) H) : rAddS (.str a) (.str b) H Q := ⟨a, b, rfl, rfl, h, q⟩
end

section
variable {H : Hp} {Q : VK} {K : PySem.W.Frag} {σ : L2.St}
def rJoin (K : PySem.W.Frag) : V → List V → Hp → VK → Prop := fun x xs H Q => ∃ a p, ∃ ys : List Str, x = .str a ∧ xs = [.ref p] ∧ (SqL K H p (ys.map V.str) ∨ SqT K H p (ys.map V.str)) ∧ (ys.map (·.length)).sum + ys.length * a.length ≤ 16777216 ∧ Q (.str (Txt.join a ys)) H
theorem pe_joinJ {X : Cx} {o e : Expr} {to te : TE} {apos pos : Pos} (ho : PE X o to) (he : PE X e te) (hs : starEach [e] X.env = [(false, eval e X.env)] := by rfl) (hbase : attributeBase o "join" X.env (eval o X.env) = eval o X.env := by rfl) (hline : (apos.endLine == pos.line) = true := by rfl) :
    PE X (.Call (.Attribute o "join" apos) [e] [] pos) (tM1 (rJoin X.K) to te) := pe_join ho he hs hbase hline
theorem g_m1 {r : V → List V → Hp → VK → Prop} {to te : TE} (h : to σ H fun x H1 => (∃ a, x = .str a) ∧ te σ H1 fun y H2 => r x [y] H2 Q) : tM1 r to te σ H Q := h
theorem g_isStr {a : Str} {W : Prop} (w : W) : (∃ b, V.str a = .str b) ∧ W := ⟨⟨a, rfl⟩, w⟩
theorem g_join {a : Str} {p : Addr} {ys : List Str} (h : SqL K H p (ys.map V.str)) (z : (ys.map (·.length)).sum + ys.length * a.length ≤ 16777216) (q : Q (.str (Txt.join a ys)) H) : rJoin K (.str a) [.ref p] H Q := ⟨a, p, ys, rfl, rfl, .inl h, z, q⟩
end
theorem join_signs (l : List Nat) : Txt.join (Str.ofString "") (l.map fun c => (⟨#[c]⟩ : Str)) = ⟨l.toArray⟩ := by
  have e : TL.tl (Txt.join (Str.ofString "") (l.map fun c => (⟨#[c]⟩ : Str))) = l := by
    rw [TL.join_eq, TL.tl_join]
    have z : TL.tl (Str.ofString "") = [] := by decide +kernel
    rw [z, List.map_map]
    have flat : ∀ l : List (List Nat), TL.joinL [] l = l.flatten := by
      intro l
      induction l with
      | nil => rfl
      | cons p r ih =>
        cases r with
        | nil =>
          show p = _
          simp
        | cons q r =>
          show p ++ ([] ++ TL.joinL [] (q :: r)) = _
          rw [List.nil_append, ih]
          rfl
    rw [flat]
    induction l with
    | nil => rfl
    | cons c r ih =>
      rw [List.map_cons, List.flatten_cons, ih]
      rfl
  refine TL.ext_tl ?_
  rw [e]

/-! ### loops and comprehensions: what is left behind the walked thing -/
def FOR (J : It) (g : TG) (tb : TS) (D : Ends) (σ : L2.St) (H1 : Hp) : Prop := ∃ W : Nat → Nat → L2.St → Hp → Prop, (∃ m, W 0 m σ H1) ∧ ∀ i m σ H, W i m σ H →
  (J.stop i H ∧ D.nx σ H) ∨ (J.go i H ∧ ∃ N : L2.St → Hp → Prop, (∀ σ' H', N σ' H' → ∃ m', m' < m ∧ W (i + 1) m' σ' H') ∧ ∀ x H', J.yld i H x H' → g x σ H' fun σ2 H2 => tb { D with nx := N, ct := N, bk := D.nx } σ2 H2)
theorem g_for {wi : TI} {g : TG} {tb : TS} {D : Ends} {σ : L2.St} {H : Hp} (h : wi σ H fun J H1 => FOR J g tb D σ H1) : tFor wi g tb D σ H := h
def LCF (J : It) (g : TG) (tt : TT) (te : TE) (vs : List Nat) (σ : L2.St) (H1 : Hp) (D : Addr) (Q : VK) : Prop := ∃ W : Nat → Nat → Hp → Prop, (∃ m, W 0 m (upd H1 D (.lst []))) ∧ ∀ i m H, W i m H →
  (J.stop i H ∧ Q (.ref D) H) ∨ (J.go i H ∧ ∃ Nx : Hp → Prop, (∀ H', Nx H' → ∃ m', m' < m ∧ W (i + 1) m' H') ∧ ∀ x H', J.yld i H x H' → g x (wipe σ vs) H' fun σ2 H2 => wipe σ2 vs = wipe σ vs ∧ tt σ2 H2 fun b H3 =>
    if b = true then te σ2 H3 fun y H4 => ∃ acc, H4 D = some (.lst acc) ∧ acc.length < sizeLine ∧ Nx (upd H4 D (.lst (acc ++ [y]))) else Nx H3)
theorem g_lc {wi : TI} {g : TG} {tt : TT} {te : TE} {vs : List Nat} {σ : L2.St} {H : Hp} {Q : VK} (h : wi σ H fun J H1 => ∀ D, H1 D = none → LCF J g tt te vs σ H1 D Q) : tLc wi g tt te vs σ H Q := h
theorem g_iL {K : PySem.W.Frag} {tl : TE} {σ : L2.St} {H : Hp} {R : It → Hp → Prop} (h : tl σ H fun x H1 => ∃ a, x = .ref a ∧ (∃ xs, SqL K H1 a xs) ∧ R (Itl K a) H1) : iList K tl σ H R := h
theorem g_iT {K : PySem.W.Frag} {tl : TE} {σ : L2.St} {H : Hp} {R : It → Hp → Prop} (h : tl σ H fun x H1 => ∃ a, x = .ref a ∧ (∃ xs, SqT K H1 a xs) ∧ R (Itt K a) H1) : iTup K tl σ H R := h
theorem g_iS {te : TE} {σ : L2.St} {H : Hp} {R : It → Hp → Prop} (h : te σ H fun v H1 => ∃ x, v = .str x ∧ R (Its x) H1) : iStr te σ H R := h
theorem g_atL {K : PySem.W.Frag} {a : Addr} {xs : List V} {H : Hp} {W : Addr → Prop} (h : SqL K H a xs) (w : W a) : ∃ b, V.ref a = .ref b ∧ (∃ xs, SqL K H b xs) ∧ W b := ⟨a, rfl, ⟨xs, h⟩, w⟩
theorem g_atT {K : PySem.W.Frag} {a : Addr} {xs : List V} {H : Hp} {W : Addr → Prop} (h : SqT K H a xs) (w : W a) : ∃ b, V.ref a = .ref b ∧ (∃ xs, SqT K H b xs) ∧ W b := ⟨a, rfl, ⟨xs, h⟩, w⟩
theorem g_atS {z : Str} {W : Str → Prop} (w : W z) : ∃ x, V.str z = .str x ∧ W x := ⟨z, rfl, w⟩

/-! ### a call by keywords alone -/
section
variable {X : Cx} {CX : CXT} {k : Nat} {f : Addr} {fd : FuncData} {ps ks : List Str} {sp : Sp} {E : XK} {x : Str} {p pos : Pos} {kws : List Keyword} {tk : TA} {g : List Value → List Value → List Value} {gV : List V → List V → List V}
theorem pe_callK0 (F : FnOk X.prog X.w X.K X.mg X.base CX k f fd ps sp) (hr : Room k X.A) (hg : Gl X x) (hm : X.mg x = some (.ref f)) (hk : PySem.W.keepIn X.K (.ref f) = true) (hb : KBinds X.K fd ps ks g gV) (hx : Passes CX X E)
    (hkw : PK X kws tk) (hall : (backToKw pos (keywordEach kws X.env)).all (·.1.isSome) = true := by rfl) (hks : (backToKw pos (keywordEach kws X.env)).filterMap (·.1) = ks := by rfl)
    (hdb : (x == ("__debug__" : Str)) = false := by decide) (hpl : ((backTo pos (starEach [] X.env)).any (·.1) || (backToKw pos (keywordEach kws X.env)).any (·.1.isNone)) = false := by rfl) :
    PE X (.Call (.Name x p) [] kws pos) (L2.tCallK sp gV E tNil tk) := by
  constructor
  intro pins s σ H Q I h
  apply wpAny_Call_Name_kw
  refine ld_glob I hg hm ?_ hdb
  refine PySem.W.callWith_KW0 (h₀ := X.base) I.ok.mod.kin hk hall ?_ hpl
  refine thn (hkw.run pos pins s σ H _ I h) ?_
  rintro ws s2 ⟨zs, H2, I2, rz, q2⟩
  refine ⟨I2.kIn, ?_⟩
  rw [hks]
  exact run_fnk F hr hb hx I2 .nil rz q2
end
/-- one parameter, handed over by its name -/
theorem kb_one {K : PySem.W.Frag} {x qual a : Str} {st : Stmt} {f : Addr} {fd : FuncData} (F : Fun K x qual st f fd)
    (h0 : ∀ (kV doc pm : Value) (an : Option Addr) (cdv ct u : Value), bindArgs (PySem.W.fnOf x qual (defArgs st) (defBody st) (defScope st) .none kV doc pm an cdv ct) ⟨[u], []⟩ = pure [(a, u)])
    (h1 : ∀ (kV doc pm : Value) (an : Option Addr) (cdv ct u : Value), bindArgs (PySem.W.fnOf x qual (defArgs st) (defBody st) (defScope st) .none kV doc pm an cdv ct) ⟨[], [(a, u)]⟩ = pure [(a, u)]) :
    KBinds K fd [a] [a] (fun us ws => us ++ ws) (fun vs zs => vs ++ zs) := by
  obtain ⟨oc, od, kV, doc, pm, an, cdv, ct, osl, rfl, lk, hcd⟩ := F.ex
  refine ⟨fun s us ws _ hl => ?_, fun r q => r.append q⟩
  match us, ws, hl with
  | [u], [], _ => exact .of_eq (h0 kV doc pm an cdv ct u)
  | [], [u], _ => exact .of_eq (h1 kV doc pm an cdv ct u)
theorem g_repr {K : PySem.W.Frag} {H : Hp} {Q : VK} {a : Addr} (d : PyData) (hd : Dp K H (.ref a) d) (sh : d.showable = true ∧ d.hasDict = false ∧ d.depth ≤ 40 ∧ d.shown.length ≤ sizeLine) (q : Q (.str d.shown) H) : rRepr K [.ref a] H Q :=
  ⟨a, d, rfl, hd, sh.1, sh.2.1, sh.2.2.1, sh.2.2.2, q⟩
theorem g_dnew {σ : L2.St} {H : Hp} {Q : VK} (q : ∀ d, H d = none → Q (.ref d) (upd H d (.dK []))) : tDNewK σ H Q := q
theorem g_disp1 {σ : L2.St} {H : Hp} {Q : VK} {tk tv : TE} (q : ∀ p, H p = none → tk σ (upd H p (.dK [])) fun x H1 => tv σ H1 fun y H2 => H2 p = some (.dK []) ∧ ∃ kvs : List (Key × V), [(x, y)] = kvs.map (fun kv => (kV kv.1, kv.2)) ∧ kvs.length ≤ 15 ∧ Q (.ref p) (upd H2 p (.dK (mergeK [] kvs)))) : tDisp [(tk, tv)] σ H Q := q
theorem g_pair1 {A : Prop} {W : List (Key × V) → Prop} {x y : V} (k : Key) (e : x = kV k) (h : A) (q : W [(k, y)]) : A ∧ ∃ kvs : List (Key × V), [(x, y)] = kvs.map (fun kv => (kV kv.1, kv.2)) ∧ kvs.length ≤ 15 ∧ W kvs :=
  ⟨h, [(k, y)], by rw [e]; rfl, by (show 1 ≤ 15); decide, q⟩
end EvG

/-! Errors of own classes, held as values: made by place and by name, stored into, read, asked for their class. -/
namespace EvX
open PySem PySem.Spec PySem.Calls PyProof.Rows L2
section
variable {P : Program} {w : World} {M : Model} {A : Around} {E : Value → Shared → Prop} {R : Result → Shared → Prop} {h : Heap} {g : Array GenState} {d : Drawn} {t : Nat} {os : OsState}
variable {nm q : Str} {C N : Addr} {bs bm bmB : List Value} {hd : Bool} {sn : List Str} {sub : List Value} {ab : Bool} {col : Option Bool} {dd : Option Addr} {k0 k1 k2 k3 k5 : Option Value} {B newId initId : String}
  {us : List Value} {kw : List (Str × Value)}
theorem chk_new (F : ExcBaseFacts B newId initId bmB) (hT : ∀ Y : String, bm.contains (.type Y) = bmB.contains (.type Y)) {Q : Unit → Shared → Prop} (hC : h.get? C = some (excClassObj nm q C N bs bm hd sn sub ab col dd k0 k1 k2 k3 k5 newId))
    (hq : Q () ⟨h, g, d, t, os⟩) : wpAny M A (checkBuiltinCall newId ⟨.ref C :: us, kw⟩) Q E ⟨h, g, d, t, os⟩ := by
  have c1 : (Value.ref C :: bm).contains (.type B) = true := by
    rw [List.contains_cons, hT, F.hasB]
    exact Bool.or_true _
  have st := F.noStar
  simp only [checkBuiltinCall, F.newKind, F.newSplit, F.newRow]
  repeat (first
    | refine wpAny_loadPart_at hC ?_
    | (refine wpAny_isSubtype_exc hC ?_; rw [c1])
    | refine wpAny_staticBase_exc hC ?_
    | refine wpAny_madeBy_exc hC ?_
    | simp only [bne_self_eq_false, Bool.false_eq_true, if_false]
    | wp_step)
  exact hq
theorem run_new (F : ExcBaseFacts B newId initId bmB) (hT : ∀ Y : String, bm.contains (.type Y) = bmB.contains (.type Y)) (hC : h.get? C = some (excClassObj nm q C N bs bm hd sn sub ab col dd k0 k1 k2 k3 k5 newId)) (hz : us.length ≤ sizeLine)
    (hq : R (.ok (.ret (.ref (h.objs.size + 1)))) ⟨(h.push (PySem.W.kdv_tup us)).push (PySem.HandSPX.excO C h.objs.size), g, d, t, os⟩) : codeAny (model P w) A (.builtin newId ⟨.ref C :: us, kw⟩) R ⟨h, g, d, t, os⟩ := by
  have ends := F.ends
  have c1 : (Value.ref C :: bm).contains (.type B) = true := by
    rw [List.contains_cons, hT, F.hasB]
    exact Bool.or_true _
  have c2 : (Value.ref C :: bm).contains (.type "AttributeError") = false := by
    rw [List.contains_cons, hT, F.noAttr]
    rfl
  have c3 : (Value.ref C :: bm).contains (.type "NameError") = false := by
    rw [List.contains_cons, hT, F.noName]
    rfl
  apply codeAny_builtinAt F.entry
  unfold Builtin.«BaseException.__new__»
  apply PySem.wpAt_bind
  show PySem.wpAt _ _ _ (stack >>= _) _ _ _
  refine PySem.wpAt_bind (PySem.wpAt_stack fun p r => PySem.wpAt_of_wpAny ?_)
  wp_walk
  apply PySem.wpAt_of_wpAny
  rw [F.owner]
  repeat (first
    | with_reducible refine wpAny_madeHere_exc F.canon hC ?_
    | with_reducible refine wpAny_loadPart_at hC ?_
    | (with_reducible refine wpAny_isSubtype_exc hC ?_
       first | rw [c1] | rw [c2] | rw [c3])
    | wp_step)
  show R _ _
  rw [Heap.size_push]
  exact hq
theorem tcall_own (F : ExcBaseFacts B newId initId bmB) (hT : ∀ Y : String, bm.contains (.type Y) = bmB.contains (.type Y)) {fI : Addr} {Q : Fin → Shared → Prop} (hC : h.get? C = some (excClassObj nm q C N bs bm hd sn sub ab col dd k0 k1 k2 k3 k5 newId))
    (hi : PySem.W.Looks (model P w) h (typeLookup (.ref C) "__init__") (some (.ref fI))) (hb : ∀ self, PySem.W.Looks (model P w) h (bindSpecial (.ref fI) self) (.ref fI, [self])) (hz : us.length ≤ sizeLine)
    (hq : codeAny (model P w) A (.call (.ref fI) ⟨.ref (h.objs.size + 1) :: us, kw⟩) (fun r s' => match r with | .ok (.ret v) => v = .none ∧ Q (.done (.ret (.ref (h.objs.size + 1)))) s' | .ok _ => False | .error e => E e s')
      ⟨(h.push (PySem.W.kdv_tup us)).push (PySem.HandSPX.excO C h.objs.size), g, d, t, os⟩) :
    wpAny (model P w) A (Builtin.«type.__call__» ⟨.ref C :: us, kw⟩) Q E ⟨h, g, d, t, os⟩ := by
  repeat (first
    | with_reducible refine wpAny_loadPart_at hC ?_
    | with_reducible refine wpAny_madeBy_exc hC ?_
    | wp_step)
  refine codeAny_call_builtin_code (Code.quiet_builtin _ F.quiet) (chk_new F hT hC ?_)
  refine run_new F hT hC hz ?_
  show wpAny _ _ _ _ _ _
  have kept : ∀ b o, h.get? b = some o → ((h.push (PySem.W.kdv_tup us)).push (PySem.HandSPX.excO C h.objs.size)).get? b = some o := fun b o e => Heap.get?_push_of_some _ (Heap.get?_push_of_some _ e)
  have there : ((h.push (PySem.W.kdv_tup us)).push (PySem.HandSPX.excO C h.objs.size)).get? (h.objs.size + 1) = some (PySem.HandSPX.excO C h.objs.size) := by heap_get
  have c1 : (Value.ref C :: bm).contains (.ref C) = true := by simp
  have hC2 := kept _ _ hC
  have i1 := hi.keeps kept
  have b1 := (hb (.ref (h.objs.size + 1))).keeps kept
  unfold isInstance
  repeat (first
    | with_reducible refine wpAny_loadPart_at there ?_
    | (with_reducible refine wpAny_isSubtype_exc hC2 ?_; rw [c1])
    | wp_step)
  show wpAny _ _ (typeLookup (.ref C) _) _ _ _
  apply i1.at
  refine wpAny_holding (wpAny_bind (b1.at ?_))
  refine wpAny_bind (wpAny_call (codeAny_mono hq fun r s' z => ?_))
  cases r with
  | error e => exact z
  | ok f =>
    cases f with
    | ret v =>
      obtain ⟨rfl, z⟩ := z
      first
        | exact wpAny_pure (wpAny_pure z)
        | (wp_walk; exact z)
    | next => exact z.elim
    | brk => exact z.elim
    | cont => exact z.elim
theorem call_made (F : ExcBaseFacts B newId initId bmB) (hT : ∀ Y : String, bm.contains (.type Y) = bmB.contains (.type Y)) {fI : Addr} (hC : h.get? C = some (excClassObj nm q C N bs bm hd sn sub ab col dd k0 k1 k2 k3 k5 newId))
    (hi : PySem.W.Looks (model P w) h (typeLookup (.ref C) "__init__") (some (.ref fI))) (hb : ∀ self, PySem.W.Looks (model P w) h (bindSpecial (.ref fI) self) (.ref fI, [self])) (hz : us.length ≤ sizeLine)
    (hq : codeAny (model P w) (A.under (.builtin "type.__call__" ⟨.ref C :: us, kw⟩)) (.call (.ref fI) ⟨.ref (h.objs.size + 1) :: us, kw⟩) (PySem.W.InitBack (h.objs.size + 1) R)
      ⟨(h.push (PySem.W.kdv_tup us)).push (PySem.HandSPX.excO C h.objs.size), g, d, t, os⟩) :
    codeAny (model P w) A (.call (.ref C) ⟨us, kw⟩) R ⟨h, g, d, t, os⟩ := by
  have f1 := tc_lookup
  have f2 := tc_bind (.ref C)
  have ty : (⟨h, g, d, t, os⟩ : Shared).TypeIs (.ref C) "type" := ⟨_, hC, rfl⟩
  apply codeAny_of_tree
  show wpAny _ _ (callAny (.ref C) _) _ _ _
  repeat (any_goals (first
    | assumption
    | with_reducible refine wpAny_loadPart_at hC ?_
    | wp_step))
  refine ⟨rfl, ?_⟩
  refine codeAny_call_builtin_at (Code.quiet_builtin _ (by decide +kernel)) entry_typeCall (wpAny_check_type_call_sub hC (tcall_own F hT hC hi hb hz ?_))
  refine codeAny_mono hq fun r s' z => ?_
  cases r with
  | error e => exact z
  | ok f => cases f <;> exact z
end
end EvX

namespace EvX
open PySem PySem.Spec PySem.Calls PyProof.Rows L2 Builtin.ObjectAttr
/-- what a class of errors says of its things, so that they are asked and read -/
structure AskC (K : PySem.W.Frag) (C : Addr) : Prop where
  hd : PySem.W.hasDictIn K C = true
  ga : PySem.W.findIn K (.ref C) "__getattribute__" = some (some (.builtin "BaseException.__getattribute__"))
  gg : PySem.W.findIn K (.ref C) "__getattr__" = some none
  exC : PySem.W.subIn K (.ref C) (.type "BaseException") = some true
  ca : PySem.W.findIn K (.ref C) "__class__" = some (some (.builtin "object.__class__"))
  cn : PySem.W.specialIn K (.builtin "object.__class__") "__get__" = some (some (.builtin "getset_descriptor.__get__"))
  ct : PySem.W.takesIn K (.builtin "object.__class__") = some true
  cm : PySem.W.mroIn K C (.type "object") = some true
  keep : PySem.W.keepIn K (.ref C) = true
/-- and one that has its own __init__, over the built-in class B -/
structure ErrC (K : PySem.W.Frag) (C : Addr) (B newId initId : String) (bmB : List Value) : Prop where
  base : ExcBaseFacts B newId initId bmB
  sf : StoreFacts B bmB "object.__setattr__" "object"
  made : PySem.W.excInitIn K C bmB newId = true
  over : PySem.W.excOver K C bmB = true
  sa : PySem.W.findIn K (.ref C) "__setattr__" = some (some (.builtin "object.__setattr__"))
  ask : AskC K C
def eOb (C t : Addr) (d : Option Addr) : Obj := { cls := .ref C, dict := d, data := .fields #[.ref t, .none, .none, .none, .bool false, .none] }
section
variable {X : Cx} {pins : List (Addr × Obj)} {σ : L2.St} {H : Hp} {s : Shared} {a C dx : Addr} {f : Str} {y : V} {u : Value} {fs : List (Str × V)} {Q : Unit → Shared → Prop} {E : Value → Shared → Prop} {A : Around} {B newId initId : String} {bmB : List Value}
theorem two_written {h' : Heap} {n : Nat} (I : Inv X pins σ H s) (e : H a = some (exo a C none)) (k : ∀ b o, b ≠ a → s.heap.get? b = some o → h'.get? b = some o) (dn : s.heap.objs.size ≤ dx) {t : Addr} (hx : h'.get? a = some (eOb C t (some dx)))
    {mA : Str → Option Value} (hn : h'.Ns1 dx mA) (r : ∀ g, RelO (fs.lookup g) (mA g)) :
    Inv X pins σ (upd (upd H dx (exd dx fs)) a (exo a C (some dx))) { s with heap := h', toks := n } := by
  have gone : H dx = none := I.hok.fresh dn
  have past : ∀ {b : Addr} {o : Obj}, s.heap.get? b = some o → b ≠ dx := by
    intro b o q z
    subst z
    exact absurd (Heap.lt_size q) (Nat.not_lt.mpr dn)
  have off : ∀ {b : Addr}, H b = none → b ≠ a := by
    intro b n z
    rw [z, e] at n
    cases n
  have un : Un X.fs [] H (upd (upd H dx (exd dx fs)) a (exo a C (some dx))) s.heap h' := by
    refine ⟨?_, ?_, ?_, ?_, ?_, ?_, ?_⟩
    · intro b o q n _ _
      exact k b o (off n) q
    · intro b o q n _ _
      exact ⟨o.slots, k b o (off n) q⟩
    · intro b o q n _
      rw [upd_ne (off n), upd_ne (past q)]
      exact n
    · intro b o q _
      by_cases z : b = a
      · subst z
        exact ⟨_, hx⟩
      · exact ⟨o, k b o z q⟩
    · intro b xs q
      rw [upd_ne (at_ne e q exo_tup), upd_ne (ne_of_none q gone)]
      exact q
    · intro b o v q
      rw [upd_ne (at_ne e q exo_frz), upd_ne (ne_of_none q gone)]
      exact q
    · intro b ps q
      refine ⟨#[], ?_⟩
      rw [upd_ne (at_ne e q exo_tbl), upd_ne (ne_of_none q gone), q]
      simp
  refine I.un un ?_
  intro b o q
  by_cases z : b = a
  · subst z
    rw [upd_same] at q
    cases q
    exact exo_ok hx
  rw [upd_ne z] at q
  by_cases z2 : b = dx
  · subst z2
    rw [upd_same] at q
    cases q
    exact exd_ok hn r
  rw [upd_ne z2] at q
  refine (I.hok b o q).stay ?_ ?_ ?_
  · intro c v hc w
    refine k c v ?_ w
    rcases hc with hc | hc
    · rw [hc]
      exact z
    · exact at_ne e hc exo_own
  · intro c hc
    rw [upd_ne (at_ne e hc exo_own), upd_ne (ne_of_none hc gone)]
    exact hc
  · intro c xs hc
    rw [upd_ne (at_ne e hc exo_tup), upd_ne (ne_of_none hc gone)]
    exact hc
/-- the first field -/
theorem put_new (T : ErrC X.K C B newId initId bmB) (I : Inv X pins σ H s) (e : H a = some (exo a C none)) (ht : PySem.W.takerIn X.K C f = some none) (ry : RelV y u)
    (h : ∀ dx s', H dx = none → dx ≠ a → Inv X pins σ (upd (upd H dx (exd dx [(f, y)])) a (exo a C (some dx))) s' → Q () s') : wpAny (model X.prog X.w) A (setAttr (.ref a) f u) Q E s := by
  obtain ⟨t1, ho⟩ := exo_at I.hok e
  obtain ⟨cd, hc, hd⟩ := PySem.W.any_some T.ask.hd
  have low : a < s.heap.objs.size := Heap.lt_size ho
  have new : H s.heap.objs.size = none := I.hok.fresh (Nat.le_refl _)
  obtain ⟨hp, g, d, tk, os⟩ := s
  refine PySem.W.set_plain I.kIn (ox := eOb C t1 none) (od := none) ⟨ho, rfl, rfl, trivial⟩ T.sa ?_
  refine PySem.W.osa_openX (od := none) T.sf I.kIn ⟨ho, rfl, rfl, trivial⟩ T.over ht fun b => ?_
  refine wpAny_bind (wpAny_pure (wpAny_bind (PySem.W.instanceDict_exc ho (PySem.W.looks_clsIn I.kIn hc) hd ?_)))
  show wpAny _ _ (storeInDict hp.objs.size (.str f _) f u) _ _ _
  have od : ((hp.push (PySem.W.dictOf [] 0)).update a fun o => { o with dict := some hp.objs.size }).get? hp.objs.size = some (PySem.W.dictOf [] 0) := (Heap.get?_update_ne _ _ _ _ (Nat.ne_of_gt low)).trans (Heap.get?_push_at rfl rfl)
  have oa : ((hp.push (PySem.W.dictOf [] 0)).update a fun o => { o with dict := some hp.objs.size }).get? a = some (eOb C t1 (some hp.objs.size)) := Heap.get?_update_self _ (Heap.get?_push_of_some _ ho) rfl
  refine PySem.HandSPX.store_in_new ⟨_, #[], _, od, rfl, fun e he => absurd he (by simp), fun _ => rfl⟩ ?_
  intro h' tk' hn sb
  refine h hp.objs.size ⟨h', g, d, tk', os⟩ new (Nat.ne_of_gt low) (two_written (s := ⟨hp, g, d, tk, os⟩) I e ?_ (Nat.le_refl _) (t := t1) ?_ hn (relO_put (fs := []) ry fun _ => trivial))
  · intro b o hb q
    exact (sb.2 b (Nat.ne_of_lt (Heap.lt_size q))).trans ((Heap.get?_update_ne _ _ _ _ hb).trans (Heap.get?_push_of_some _ q))
  · exact (sb.2 a (Nat.ne_of_lt low)).trans oa
/-- a further field -/
theorem put_more (T : ErrC X.K C B newId initId bmB) (I : Inv X pins σ H s) (e : H a = some (exo a C (some dx))) (ed : H dx = some (exd dx fs)) (hl : fs.length ≤ 900) (ht : PySem.W.takerIn X.K C f = some none) (ry : RelV y u)
    (h : ∀ s', Inv X pins σ (upd H dx (exd dx ((f, y) :: fs))) s' → Q () s') : wpAny (model X.prog X.w) A (setAttr (.ref a) f u) Q E s := by
  obtain ⟨t1, ho⟩ := exo_at I.hok e
  obtain ⟨mA, hns, rel⟩ := exd_at I.hok ed
  obtain ⟨cd, hc, hd⟩ := PySem.W.any_some T.ask.hd
  have hw := within_of rel
  obtain ⟨hp, g, d, tk, os⟩ := s
  obtain ⟨oD, _, _, hoD, _, _⟩ := hns.count hw
  refine PySem.W.set_plain I.kIn (ox := eOb C t1 (some dx)) (od := some oD) ⟨ho, rfl, rfl, hoD⟩ T.sa ?_
  refine PySem.W.osa_openX (od := some oD) T.sf I.kIn ⟨ho, rfl, rfl, hoD⟩ T.over ht fun b => ?_
  refine wpAny_bind (wpAny_pure (wpAny_bind (wpAny_bind (wpAny_loadPart ho (wpAny_bind ((PySem.W.looks_clsIn I.kIn hc).at ?_))))))
  rw [hd]
  refine wpAny_pure (a := some dx) ?_
  show wpAny _ _ (storeInDict dx (.str f _) f u) _ _ _
  refine PySem.OEX.store_in_old hns hw (by rw [List.length_map]; omega) ?_
  intro h' tk' hn sb
  have there : ∃ o, h'.get? dx = some o := by
    obtain ⟨o, _, _, q, _⟩ := hn
    exact ⟨o, q⟩
  exact h _ (I.write (x := dx) (e := dx) (o := exd dx ((f, y) :: fs)) (by rw [ed]; exact trivial) (.inl rfl) (fun b o hb q => (sb.2 b hb).trans q) there (exd_ok hn (relO_put ry rel)))
end
end EvX

namespace EvX
open PySem PySem.Spec PySem.Calls PyProof.Rows L2 Builtin.ObjectAttr
abbrev Ext (H H' : Hp) : Prop := Same H H'
theorem Same.rfl {H : Hp} : Ext H H := fun _ _ h => h
theorem Same.trans {H H1 H2 : Hp} (a : Ext H H1) (b : Ext H1 H2) : Ext H H2 := fun c o h => b c o (a c o h)
theorem ext_new {H : Hp} {a : Addr} {o : HO} (h : H a = none) : Ext H (upd H a o) := fun b u q => by
  rw [upd_ne (ne_of_none q h)]
  exact q
/-- an error of the class C with these fields stands at a -/
def IsE (C : Addr) (fs : List (Str × V)) (a : Addr) (H : Hp) : Prop := ∃ d, H a = some (exo a C d) ∧ match d with | none => fs = [] | some dx => H dx = some (exd dx fs)
theorem IsE.ext {C : Addr} {fs : List (Str × V)} {a : Addr} {H H' : Hp} (h : IsE C fs a H) (e : Ext H H') : IsE C fs a H' := by
  obtain ⟨d, h1, h2⟩ := h
  refine ⟨d, e _ _ h1, ?_⟩
  cases d with
  | none => exact h2
  | some dx => exact e _ _ h2
/-- the fields of the new error at a are laid -/
def LaidE (H : Hp) (a C : Addr) (fs : List (Str × V)) (H' : Hp) : Prop := ∃ dx, H dx = none ∧ dx ≠ a ∧ H' a = some (exo a C (some dx)) ∧ H' dx = some (exd dx fs) ∧ ∀ b, b ≠ a → b ≠ dx → H' b = H b
theorem LaidE.isE {H H' : Hp} {a C : Addr} {o : HO} {fs : List (Str × V)} (n : H a = none) (h : LaidE (upd H a o) a C fs H') : IsE C fs a H' ∧ Ext H H' := by
  obtain ⟨dx, h1, h2, h3, h4, h5⟩ := h
  refine ⟨⟨some dx, h3, h4⟩, fun b u q => ?_⟩
  have ba : b ≠ a := ne_of_none q n
  have n2 : H dx = none := by
    rw [upd_ne h2] at h1
    exact h1
  rw [h5 b ba (ne_of_none q n2), upd_ne ba]
  exact q
/-! ### self.f = e in an __init__ -/
def tPut (K : PySem.W.Frag) (f : Str) (to te : TE) : TS := fun D σ H => te σ H fun y H1 => to σ H1 fun x H2 => ∃ a C : Addr, x = .ref a ∧ (∃ B n i bm, ErrC K C B n i bm) ∧ PySem.W.takerIn K C f = some none ∧
  ((H2 a = some (exo a C none) ∧ ∀ H', LaidE H2 a C [(f, y)] H' → D.nx σ H') ∨ ∃ (H0 : Hp) (fs : List (Str × V)), LaidE H0 a C fs H2 ∧ fs.length ≤ 900 ∧ ∀ H', LaidE H0 a C ((f, y) :: fs) H' → D.nx σ H')
theorem ps_put {X : Cx} {o e : Expr} {to te : TE} {f : Str} {p' pos : Pos} (ho : PE X o to) (he : PE X e te) (hs : swapsWith e (some (.Attribute o f p')) pos.line X.env = pure false := by rfl) : PS X (.Assign [.Attribute o f p'] e pos) (tPut X.K f to te) := by
  constructor
  intro pins s σ H D I h
  refine plainObj_wpAny_Assign_Attribute (thn (he.run pins s σ H _ I h) ?_) hs
  rintro v s1 ⟨y, H1, I1, r1, q1⟩
  refine thn (ho.run pins s1 σ H1 _ I1 q1) ?_
  rintro u s2 ⟨x, H2, I2, r2, a, C, rfl, ⟨B, n, i, bm, T⟩, ht, q⟩
  obtain rfl : u = Value.ref a := r2
  rcases q with ⟨ea, q⟩ | ⟨H0, fs, L, hl, q⟩
  · refine put_new T I2 ea ht r1 ?_
    intro dx s' n ne J
    refine ⟨σ, _, J, q _ ⟨dx, n, ne, upd_same, ?_, fun b h1 h2 => ?_⟩⟩
    · rw [upd_ne ne, upd_same]
    · rw [upd_ne h1, upd_ne h2]
  · obtain ⟨dx, h1, h2, h3, h4, h5⟩ := L
    refine put_more T I2 h3 h4 hl ht r1 ?_
    intro s' J
    refine ⟨σ, _, J, q _ ⟨dx, h1, h2, ?_, upd_same, fun b b1 b2 => ?_⟩⟩
    · rw [upd_ne (Ne.symm h2)]
      exact h3
    · rw [upd_ne b2]
      exact h5 b b1 b2
/-! ### C(..) -/
/-- what an __init__ does that keeps its n values as these fields -/
def spI (C : Addr) (n : Nat) (F : List V → List (Str × V)) : Sp := fun vs H Q _ => ∃ a ys, vs = .ref a :: ys ∧ ys.length = n ∧ H a = some (exo a C none) ∧ ∀ H', LaidE H a C (F ys) H' → Q .non H'
section
variable {X : Cx} {CX : CXT} {k : Nat} {fI C : Addr} {fd : FuncData} {ps ks : List Str} {sp : Sp} {x : Str} {p pos : Pos} {e : Expr} {es : List Expr} {kws : List Keyword} {ta tk : TA} {g : List Value → List Value → List Value} {gV : List V → List V → List V} {B newId initId : String} {bmB : List Value}
theorem run_err {pins : List (Addr × Obj)} {σ : L2.St} {H : Hp} {s : Shared} {Q : VK} {us ws : List Value} {vs zs : List V} (T : ErrC X.K C B newId initId bmB) (iC : PySem.W.findIn X.K (.ref C) "__init__" = some (some (.ref fI))) (tI : PySem.W.typeIn X.K (.ref fI) = some (.type "function"))
    (F : FnOk X.prog X.w X.K X.mg X.base CX k fI fd ps sp) (hr : Room (k + 1) X.A) (hb : KBinds X.K fd ps ks g gV) (hx : Passes CX X (fun _ _ _ => False)) (I : Inv X pins σ H s) (r : Vals vs us) (rz : Vals zs ws) (hz : vs.length ≤ 1000)
    (h : ∀ a, H a = none → sp (gV (.ref a :: vs) zs) (upd H a (exo a C none)) (fun v H2 => v = .non ∧ Q (.ref a) H2) (fun _ _ _ => False)) :
    wpAny (model X.prog X.w) X.A (call (.ref C) us (ks.zip ws)) (EP X pins σ Q) X.xe s := by
  obtain ⟨nm, N', qn, bs, bm, hdct, sn, sub, ab, col, dd, k0, k1, k2, k3, k5, hC, hT⟩ := PySem.W.excInit_of I.kIn T.made
  obtain ⟨hp, gs, dr, tk, os⟩ := s
  have up : hp.objs.size ≤ hp.objs.size + 1 := Nat.le_succ _
  have new : H (hp.objs.size + 1) = none := I.hok.fresh up
  have hq := h (hp.objs.size + 1) new
  have kept : ∀ b o, hp.get? b = some o → ((hp.push (PySem.W.kdv_tup us)).push (PySem.HandSPX.excO C hp.objs.size)).get? b = some o := fun b o q => Heap.get?_push_of_some _ (Heap.get?_push_of_some _ q)
  have there : ((hp.push (PySem.W.kdv_tup us)).push (PySem.HandSPX.excO C hp.objs.size)).get? (hp.objs.size + 1) = some (PySem.HandSPX.excO C hp.objs.size) := by heap_get
  have J : Inv X pins σ (upd H (hp.objs.size + 1) (exo (hp.objs.size + 1) C none)) ⟨(hp.push (PySem.W.kdv_tup us)).push (PySem.HandSPX.excO C hp.objs.size), gs, dr, tk, os⟩ :=
    I.laid (t' := tk) kept up (exo_ok there)
  have r1 : Vals (V.ref (hp.objs.size + 1) :: vs) (Value.ref (hp.objs.size + 1) :: us) := .cons rfl r
  have r2 := hb.rel r1 rz
  have many : (g (Value.ref (hp.objs.size + 1) :: us) ws).length = ps.length := r2.length.symm.trans (F.len _ _ _ _ hq)
  have small : us.length ≤ sizeLine := by
    rw [← Paired.length r, sizeLine_eq]
    omega
  refine wpAny_call (call_made T.base hT hC (PySem.W.looks_findIn I.kIn iC) (fun self => PySem.W.bind_fn I.kIn self tI) small ?_)
  refine codeAny_mono (F.run _ X.stack _ _ ⟨Value.ref (hp.objs.size + 1) :: us, ks.zip ws⟩ (g (Value.ref (hp.objs.size + 1) :: us) ws) _ _ (fun _ _ _ => False) (hr.make C us (ks.zip ws)) (J.env0.make C us (ks.zip ws)) (hb.to _ _ ws J.kIn many) r2 hq) ?_
  intro res s' hq'
  cases res with
  | error er => exact hx pins σ _ _ er s' J hq'
  | ok fl =>
    cases fl with
    | next => exact hq'.elim
    | brk => exact hq'.elim
    | cont => exact hq'.elim
    | ret u =>
      obtain ⟨v, H2, I3, rv, ev, q3⟩ := J.after hq'
      subst ev
      exact ⟨rv, V.ref (hp.objs.size + 1), H2, I3, rfl, q3⟩
/-- C(e, ..) -/
def tMkE (C : Addr) (sp : Sp) (gV : List V → List V → List V) (ta tk : TA) : TE := fun σ H Q => ta σ H fun vs H1 => tk σ H1 fun zs H2 => vs.length ≤ 1000 ∧ ∀ a, H2 a = none → sp (gV (.ref a :: vs) zs) (upd H2 a (exo a C none)) (fun v H3 => v = .non ∧ Q (.ref a) H3) (fun _ _ _ => False)
theorem pe_mkE (T : ErrC X.K C B newId initId bmB) (iC : PySem.W.findIn X.K (.ref C) "__init__" = some (some (.ref fI))) (tI : PySem.W.typeIn X.K (.ref fI) = some (.type "function")) (F : FnOk X.prog X.w X.K X.mg X.base CX k fI fd ps sp) (hr : Room (k + 1) X.A)
    (hb : KBinds X.K fd ps [] g gV) (hx : Passes CX X (fun _ _ _ => False)) (hg : Gl X x) (hm : X.mg x = some (.ref C)) (ha : PA X (e :: es) ta)
    (hdb : (x == ("__debug__" : Str)) = false := by decide) (he : starEach (e :: es) X.env = (false, eval e X.env) :: starEach es X.env := by rfl) (hpl : (backTo pos (starEach es X.env)).any (·.1) = false := by rfl) :
    PE X (.Call (.Name x p) (e :: es) [] pos) (tMkE C sp gV ta tNil) := by
  constructor
  intro pins s σ H Q I h
  apply wpAny_Call_Name_kw
  refine ld_glob I hg hm ?_ hdb
  refine PySem.W.callWith_K (h₀ := X.base) I.ok.mod.kin T.ask.keep (thn (ha.run pos pins s σ H _ I h) ?_) he hpl
  rintro us s1 ⟨vs, H1, I1, r, q⟩
  obtain ⟨hz, q⟩ := (show vs.length ≤ 1000 ∧ _ from q)
  exact ⟨I1.kIn, run_err (ws := []) (zs := []) T iC tI F hr hb hx I1 r .nil hz q⟩
/-- C(k = e, ..) -/
theorem pe_mkEK (T : ErrC X.K C B newId initId bmB) (iC : PySem.W.findIn X.K (.ref C) "__init__" = some (some (.ref fI))) (tI : PySem.W.typeIn X.K (.ref fI) = some (.type "function")) (F : FnOk X.prog X.w X.K X.mg X.base CX k fI fd ps sp) (hr : Room (k + 1) X.A)
    (hb : KBinds X.K fd ps ks g gV) (hx : Passes CX X (fun _ _ _ => False)) (hg : Gl X x) (hm : X.mg x = some (.ref C)) (hkw : PK X kws tk)
    (hall : (backToKw pos (keywordEach kws X.env)).all (·.1.isSome) = true := by rfl) (hks : (backToKw pos (keywordEach kws X.env)).filterMap (·.1) = ks := by rfl)
    (hdb : (x == ("__debug__" : Str)) = false := by decide) (hpl : ((backTo pos (starEach [] X.env)).any (·.1) || (backToKw pos (keywordEach kws X.env)).any (·.1.isNone)) = false := by rfl) :
    PE X (.Call (.Name x p) [] kws pos) (tMkE C sp gV tNil tk) := by
  constructor
  intro pins s σ H Q I h
  apply wpAny_Call_Name_kw
  refine ld_glob I hg hm ?_ hdb
  refine PySem.W.callWith_KW0 (h₀ := X.base) I.ok.mod.kin T.ask.keep hall ?_ hpl
  refine thn (hkw.run pos pins s σ H _ I h) ?_
  rintro ws s2 ⟨zs, H2, I2, rz, q⟩
  obtain ⟨hz, q⟩ := (show ([] : List V).length ≤ 1000 ∧ _ from q)
  refine ⟨I2.kIn, ?_⟩
  rw [hks]
  exact run_err (us := []) (vs := []) T iC tI F hr hb hx I2 .nil rz hz q
/-- C(), C without an __init__ of its own -/
theorem pe_mk0 (F : ExcBaseFacts B newId initId bmB) (q : PySem.W.excIn X.K C bmB newId = true) (kC : PySem.W.keepIn X.K (.ref C) = true) (hg : Gl X x) (hm : X.mg x = some (.ref C))
    (hall : (backToKw pos (keywordEach [] X.env)).all (·.1.isSome) = true := by rfl) (hks : (backToKw pos (keywordEach [] X.env)).filterMap (·.1) = [] := by rfl)
    (hdb : (x == ("__debug__" : Str)) = false := by decide) (hpl : ((backTo pos (starEach [] X.env)).any (·.1) || (backToKw pos (keywordEach [] X.env)).any (·.1.isNone)) = false := by rfl) :
    PE X (.Call (.Name x p) [] [] pos) (fun _ H Q => ∀ a, H a = none → Q (.ref a) (upd H a (exo a C none))) := by
  constructor
  intro pins s σ H Q I h
  apply wpAny_Call_Name_kw
  refine ld_glob I hg hm ?_ hdb
  refine PySem.W.callWith_KW0 (h₀ := X.base) I.ok.mod.kin kC hall ?_ hpl
  refine thn ((pk_nil (X := X)).run pos pins s σ H (fun zs H1 => zs = [] ∧ H1 = H) I ⟨rfl, rfl⟩) ?_
  rintro ws s2 ⟨zs, H2, I2, rz, rfl, rfl⟩
  cases rz
  refine ⟨I2.kIn, ?_⟩
  rw [hks]
  show wpAny _ _ (call (.ref C) []) _ _ _
  obtain ⟨bm, N, nm, qn, bs, hdct, sn, sub, ab, col, dd, k0, k1, k2, k3, k5, mN, hC, hN, hni, T⟩ := exc_obj I2.kIn q
  refine wpAny_call_exc_subT F T hC hN hni (fun h' a hm' => ?_) (by show 0 ≤ sizeLine; omega)
  have hn : H2 a = none := I2.hok.gone hm'.new
  obtain ⟨t, ht, _, _⟩ := hm'.there
  exact ⟨.ref a, upd H2 a (exo a C none), I2.laidN hm'.keeps hm'.new hn (exo_ok ht), rfl, h a hn⟩
/-- binds of a call by place as binds by names -/
theorem kb_all (h : ∀ us : List Value, us.length = ps.length → bindArgs fd ⟨us, []⟩ = pure (ps.zip us)) : KBinds X.K fd ps [] (fun us _ => us) (fun vs _ => vs) :=
  ⟨fun s us ws _ hl => by
    have e : ([] : List Str).zip ws = [] := rfl
    rw [e]
    exact .of_eq (h us hl), fun r _ => r⟩
end
/-! ### e.f and isinstance(e, c) -/
section
variable {X : Cx} {C a : Addr} {fs : List (Str × V)}
def tFld (K : PySem.W.Frag) (f : Str) (te : TE) : TE := fun σ H Q => te σ H fun x H1 => ∃ (a C : Addr) (fs : List (Str × V)) (v : V), x = .ref a ∧ AskC K C ∧ PySem.W.findIn K (.ref C) f = some none ∧ IsE C fs a H1 ∧ fs.lookup f = some v ∧ Q v H1
theorem pe_fldE {e : Expr} {te : TE} {pos : Pos} {f : Str} (he : PE X e te) (hb : attributeBase e f X.env (eval e X.env) = eval e X.env := by rfl) : PE X (.Attribute e f pos) (tFld X.K f te) := by
  constructor
  intro pins s σ H Q I h
  refine attr_of hb (thn (he.run pins s σ H _ I h) ?_)
  rintro u s1 ⟨x, H1, I1, rx, a, C, fs, v, rfl, T, hno, ⟨d, ea, ed⟩, l, q⟩
  obtain rfl : u = Value.ref a := rx
  cases d with
  | none =>
    have z : fs = [] := ed
    subst z
    cases l
  | some dx =>
    obtain ⟨t1, ho⟩ := exo_at I1.hok ea
    obtain ⟨mA, hns, hr⟩ := exd_at I1.hok ed
    obtain ⟨od, hod, hl⟩ := lookIn_ns hns
    obtain ⟨w, hw, rw'⟩ := RelO.some_of (v := v) (o := mA f) (by rw [← l]; exact hr f)
    have J : PySem.W.InstAt s1.heap a (eOb C t1 (some dx)) C (some od) := ⟨ho, rfl, rfl, hod⟩
    exact HandSPX.exc_get I1.kIn J T.ga T.gg T.exC (PySem.W.findObj_own T.hd hno rfl (by rw [hl, hw])) (handed_of rw') ⟨v, H1, I1.tok _, rw', q⟩
def rAskE (K : PySem.W.Frag) : List V → Hp → VK → Prop := fun xs H Q => ∃ (a C : Addr) (fs : List (Str × V)) (c : V) (cv : Value) (b : Bool), xs = [.ref a, c] ∧ (∀ u, RelV c u → u = cv) ∧ AskC K C ∧ IsE C fs a H ∧ PySem.W.kitOne K (.ref C) cv = some b ∧ Q (.bl b) H
theorem call_askE : CallR X (.builtin "isinstance") (rAskE X.K) := by
  intro pins s σ H xs us Q I r h
  obtain ⟨a, C, fs, c, cv, b, rfl, hcv, T, ⟨d, ea, ed⟩, e, q⟩ := h
  obtain ⟨t1, ho⟩ := exo_at I.hok ea
  obtain ⟨cd, hc, _⟩ := PySem.W.any_some T.hd
  have own : (PySem.W.clsIn X.K C).isSome = true := by
    rw [hc]
    rfl
  cases r with
  | cons rx rr =>
    cases rr with
    | cons rt rr =>
      cases rr
      cases rx
      have ec := hcv _ rt
      subst ec
      have fin : ∀ tk, EP X pins σ Q (.bool b) { s with toks := tk } := fun tk => ⟨.bl b, H, I.kept (t' := tk) fun _ _ z => z, rfl, q⟩
      cases d with
      | none =>
        have J : PySem.W.InstAt s.heap a (eOb C t1 none) C none := ⟨ho, rfl, rfl, trivial⟩
        exact PySem.W.kia_one (PySem.W.kitx_exc own T.ga T.gg T.exC T.ca T.cn T.ct T.cm) I.kIn J e (fun z => nomatch z) fin
      | some dx =>
        obtain ⟨mA, ⟨od, es, ep, hod, _⟩, _⟩ := exd_at I.hok ed
        have J : PySem.W.InstAt s.heap a (eOb C t1 (some dx)) C (some od) := ⟨ho, rfl, rfl, hod⟩
        exact PySem.W.kia_one (PySem.W.kitx_exc own T.ga T.gg T.exC T.ca T.cn T.ct T.cm) I.kIn J e (fun z => nomatch z) fin
end
end EvX

/-! list(enumerate(xs)), xs a list -/
namespace EvX
open PySem PySem.Spec PySem.Calls PyProof.Rows L2
/-- the object of an enumerate whose last pair, at a, still lives -/
abbrev enOut (a it : Addr) (f : Bool) (i : Int) (old : Value) : Obj := { cls := .type "enumerate", dict := none, data := .fields #[rawInt a, .bool f, .ref it, rawInt i, .none, old], slots := #[] }
def EnS (h : Heap) (e it S : Addr) (i : Nat) : Prop := (∃ old, IsEnum h e it (i : Int) old) ∨ ∃ (a : Addr) (f : Bool) (old : Value) (o : Obj), h.get? e = some (enOut a it f (i : Int) old) ∧ h.get? a = some o ∧ a ≠ e ∧ a ≠ it ∧ a ≠ S
theorem EnS.keep {h h' : Heap} {e it S : Addr} {i : Nat} (x : EnS h e it S i) (k : ∀ b o, b ≠ S → h.get? b = some o → h'.get? b = some o) (n : e ≠ S) : EnS h' e it S i := by
  rcases x with ⟨old, q⟩ | ⟨a, f, old, o, q, qa, h1, h2, h3⟩
  · exact .inl ⟨old, k _ _ n q⟩
  · exact .inr ⟨a, f, old, o, k _ _ n q, k _ _ h3 qa, h1, h2, h3⟩
section
variable {P : Program} {w : World} {A : Around} {E : Value → Shared → Prop} {s : Shared} {e it l S : Addr} {i : Nat} {items : Array Value} {x : Value} {Q : Option Value → Shared → Prop}
theorem en_out {a : Addr} {f : Bool} {old : Value} {o : Obj} (he : s.heap.get? e = some (enOut a it f (i : Int) old)) (ha : s.heap.get? a = some o) (ae : a ≠ e) (ai : a ≠ it) (hit : s.heap.IsListIter it l i) (hl : s.heap.IsList l items) (hx : items[i]? = some x) (hne : e ≠ it)
    (hQ : ∀ h' f', h'.get? e = some (enOut a it f' ((i : Int) + 1) old) → h'.IsListIter it l (i + 1) → h'.get? s.heap.objs.size = some { cls := .type "tuple", data := .seq #[.int i s.toks, x] } → h'.objs.size = s.heap.objs.size + 1 →
      (∀ b o, b ≠ e → b ≠ it → s.heap.get? b = some o → h'.get? b = some o) → Q (some (.ref s.heap.objs.size)) { s with heap := h', toks := s.toks + 1 }) :
    wpAny (model P w) A (pyNext (.ref e)) Q E s := by
  have ty : s.TypeIs (.ref e) "enumerate" := ⟨_, he, rfl⟩
  obtain ⟨hp, g, d, tk, os⟩ := s
  unfold pyNext
  refine wpAny_bind (wpAny_attempt (wpAny_callSpecial?_slot (name := Str.ofString "__next__") ty F.slot_enumerate_next (wpAny_call_entry F.slot_enumerate_next ty F.entry_enumerate_next ?_ (F.args_enumerate_next_1 _))))
  show wpAny _ _ (field (.ref e) 2 >>= _) _ _ _
  refine wpAny_bind (wpAny_field he rfl (x := .ref it) rfl ?_)
  refine wpAny_bind (wpAny_nextOf_list_item hit hl hx fun h1 hit1 sb1 => ?_)
  have sb1 : Heap.SameBut it hp h1 := sb1
  have e1 : h1.get? e = some (enOut a it f (i : Int) old) := (sb1.2 e hne).trans he
  show wpAny _ _ (field (.ref e) 3 >>= _) _ _ ⟨h1, g, d, tk, os⟩
  refine wpAny_bind (wpAny_field e1 rfl (x := rawInt i) rfl ?_)
  show wpAny _ _ (field (.ref e) 4 >>= _) _ _ ⟨h1, g, d, tk, os⟩
  refine wpAny_bind (wpAny_field e1 rfl (x := .none) rfl ?_)
  show wpAny _ _ (mkInt i >>= _) _ _ ⟨h1, g, d, tk, os⟩
  refine wpAny_bind (wpAny_mkInt ?_)
  show wpAny _ _ (setField (.ref e) 3 (rawInt ((i : Int) + 1)) >>= _) _ _ ⟨h1, g, d, tk + 1, os⟩
  refine wpAny_bind (wpAny_setField_rec e1 (by simp) fun h2 e2 sb2 => ?_)
  have sb2 : Heap.SameBut e h1 h2 := sb2
  have e2 : h2.get? e = some (enOut a it f ((i : Int) + 1) old) := e2
  show wpAny _ _ (setField (.ref e) 4 .none >>= _) _ _ ⟨h2, g, d, tk + 1, os⟩
  refine wpAny_bind (wpAny_setField_rec e2 (by simp) fun h3 e3 sb3 => ?_)
  have sb3 : Heap.SameBut e h2 h3 := sb3
  have e3 : h3.get? e = some (enOut a it f ((i : Int) + 1) old) := e3
  show wpAny _ _ (newTuple [.int i tk, x] >>= _) _ _ ⟨h3, g, d, tk + 1, os⟩
  refine wpAny_bind (wpAny_newTuple ?_)
  have sz : h3.objs.size = hp.objs.size := by rw [sb3.1, sb2.1, sb1.1]
  have k3 : ∀ b o, b ≠ e → b ≠ it → hp.get? b = some o → h3.get? b = some o := fun b o n1 n2 q => sb3.extBut b o n1 (sb2.extBut b o n1 (sb1.extBut b o n2 q))
  have it3 : h3.IsListIter it l (i + 1) := (hit1.extBut sb2.extBut (Ne.symm hne)).extBut sb3.extBut (Ne.symm hne)
  have el : e < hp.objs.size := Heap.lt_size he
  have e4 : (h3.push { cls := .type "tuple", data := .seq #[.int i tk, x] }).get? e = some (enOut a it f ((i : Int) + 1) old) := Heap.get?_push_of_some _ e3
  have t4 : (h3.push { cls := .type "tuple", data := .seq #[.int i tk, x] }).get? hp.objs.size = some { cls := .type "tuple", data := .seq #[.int i tk, x] } := by
    rw [← sz]
    exact Heap.get?_push_size _ rfl
  have a4 : (h3.push { cls := .type "tuple", data := .seq #[.int i tk, x] }).get? a = some o := Heap.get?_push_of_some _ (k3 a o ae ai ha)
  have z4 : (h3.push { cls := .type "tuple", data := .seq #[.int i tk, x] }).objs.size = hp.objs.size + 1 := by rw [Heap.size_push, sz]
  have it4 : (h3.push { cls := .type "tuple", data := .seq #[.int i tk, x] }).IsListIter it l (i + 1) := by
    obtain ⟨o, ho, r⟩ := it3
    exact ⟨o, Heap.get?_push_of_some _ ho, r⟩
  have k4 : ∀ b o, b ≠ e → b ≠ it → hp.get? b = some o → (h3.push { cls := .type "tuple", data := .seq #[.int i tk, x] }).get? b = some o := fun b o n1 n2 q => Heap.get?_push_of_some _ (k3 b o n1 n2 q)
  show wpAny _ _ (Builtin.SmallTypes.ownedTupleIsFree (.ref e) >>= _) _ _ ⟨h3.push { cls := .type "tuple", data := .seq #[.int i tk, x] }, g, d, tk + 1, os⟩
  rw [sz]
  generalize h3.push { cls := .type "tuple", data := .seq #[.int i tk, x] } = h4 at e4 t4 a4 z4 it4 k4 ⊢
  clear it3 k3 e3 sb3 e2 sb2 e1 sb1 hit1 sz
  refine wpAny_bind ?_
  unfold Builtin.SmallTypes.ownedTupleIsFree
  refine wpAny_bind (wpAny_field e4 rfl (x := rawInt a) rfl ?_)
  show wpAny _ _ (loadIfAlive ((a : Int).toNat) >>= _) _ _ _
  rw [Int.toNat_natCast]
  refine wpAny_bind (PySem.W.kdx_alive a4 ?_)
  simp only [Option.isNone_some, Bool.false_eq_true, if_false]
  refine wpAny_bind (wpAny_field e4 rfl (x := .bool f) rfl ?_)
  cases f with
  | true =>
    rw [if_neg (show ¬ ((Value.bool true != Value.bool true) = true) from Bool.false_ne_true)]
    refine wpAny_pure ?_
    simp only [Bool.false_eq_true, if_false]
    exact wpAny_pure (⟨_, rfl, wpAny_pure (hQ h4 true e4 it4 t4 z4 k4)⟩)
  | false =>
    rw [if_pos (show (Value.bool false != Value.bool true) = true from rfl)]
    refine wpAny_bind (wpAny_setField_rec e4 (by simp) fun h5 e5 sb5 => ?_)
    have sb5 : Heap.SameBut e h4 h5 := sb5
    refine wpAny_pure ?_
    simp only [Bool.false_eq_true, if_false]
    refine wpAny_pure (⟨_, rfl, wpAny_pure (hQ h5 true e5 (it4.extBut sb5.extBut (Ne.symm hne)) ?_ ?_ fun b o n1 n2 q => sb5.extBut b o n1 (k4 b o n1 n2 q))⟩)
    · exact sb5.extBut _ _ (Nat.ne_of_gt el) t4
    · rw [sb5.1, z4]
theorem en_item (he : EnS s.heap e it S i) (hS : S < s.heap.objs.size) (hit : s.heap.IsListIter it l i) (hl : s.heap.IsList l items) (hx : items[i]? = some x) (hne : e ≠ it)
    (hQ : ∀ h', EnS h' e it S (i + 1) → h'.IsListIter it l (i + 1) → h'.get? s.heap.objs.size = some { cls := .type "tuple", data := .seq #[.int i s.toks, x] } → h'.objs.size = s.heap.objs.size + 1 →
      (∀ b o, b ≠ e → b ≠ it → s.heap.get? b = some o → h'.get? b = some o) → Q (some (.ref s.heap.objs.size)) { s with heap := h', toks := s.toks + 1 }) :
    wpAny (model P w) A (pyNext (.ref e)) Q E s := by
  have up : ((i + 1 : Nat) : Int) = (i : Int) + 1 := by omega
  have il : it < s.heap.objs.size := by
    obtain ⟨o, q, _⟩ := hit
    exact Heap.lt_size q
  rcases he with ⟨old, q⟩ | ⟨a, f, old, o, q, qa, h1, h2, h3⟩
  · refine wpAny_pyNext_enum_item q hit hl hx hne fun h' o' it' t' z' k' => hQ h' (.inr ⟨s.heap.objs.size, false, x, _, ?_, t', Nat.ne_of_gt (Heap.lt_size q), Nat.ne_of_gt il, Nat.ne_of_gt hS⟩) it' t' z' k'
    rw [up]
    exact o'
  · refine en_out q qa h1 h2 hit hl hx hne fun h' f' o' it' t' z' k' => hQ h' (.inr ⟨a, f', old, o, ?_, k' a o h1 h2 qa, h1, h2, h3⟩) it' t' z' k'
    rw [up]
    exact o'
theorem en_end (hh : A.handled = none) (he : EnS s.heap e it S i) (hit : s.heap.IsListIter it l i) (hl : s.heap.IsList l items) (hx : items[i]? = none) (hQ : ∀ h', Heap.ExtBut it s.heap h' → Q none { s with heap := h' }) :
    wpAny (model P w) A (pyNext (.ref e)) Q E s := by
  rcases he with ⟨old, q⟩ | ⟨a, f, old, o, q, _⟩
  · exact wpAny_pyNext_enum_end hh q hit hl hx hQ
  · have ty : s.TypeIs (.ref e) "enumerate" := ⟨_, q, rfl⟩
    unfold pyNext
    refine wpAny_bind (wpAny_attempt (wpAny_callSpecial?_slot (name := Str.ofString "__next__") ty F.slot_enumerate_next (wpAny_call_entry F.slot_enumerate_next ty F.entry_enumerate_next ?_ (F.args_enumerate_next_1 _))))
    show wpAny _ _ (field (.ref e) 2 >>= _) _ _ _
    refine wpAny_bind (wpAny_field q rfl (x := .ref it) rfl ?_)
    refine wpAny_bind (wpAny_nextOf_list_end hh hit hl hx fun h' y he' hy => ?_)
    obtain ⟨oy, ho, hc⟩ := hy
    refine wpAny_bind (wpAny_isInstance (T := "StopIteration") (b := true) ⟨oy, ho, hc⟩ isSubtype_stop ?_)
    exact wpAny_pure (hQ _ he')
end
end EvX

namespace EvX
open PySem PySem.Spec PySem.Calls PyProof.Rows L2
theorem enum_no_len : typeLookup (.type "enumerate") "__len__" = pure none := by
  rw [typeLookup_type, builtinLookup_eq_fast]
  kernel_rfl
theorem enum_no_hint : typeLookup (.type "enumerate") "__length_hint__" = pure none := by
  rw [typeLookup_type, builtinLookup_eq_fast]
  kernel_rfl
/-- the pairs that were given out -/
structure Pairs (items : List Value) (lo : Addr) (h : Heap) (as : List Addr) : Prop where
  rise : as.Pairwise (· < ·)
  above : ∀ a ∈ as, lo < a
  pairs : ∀ (j : Nat) (a : Addr), as[j]? = some a → ∃ (t : Tok) (x : Value), items[j]? = some x ∧ h.get? a = some { cls := .type "tuple", data := .seq #[.int j t, x] }
theorem Pairs.past {items : List Value} {lo : Addr} {h : Heap} {as : List Addr} (g : Pairs items lo h as) {a : Addr} (ha : a ∈ as) : a < h.objs.size := by
  obtain ⟨j, hj⟩ := List.mem_iff_getElem?.mp ha
  obtain ⟨_, _, _, q⟩ := g.pairs j a hj
  exact Heap.lt_size q
section
variable {P : Program} {w : World} {A : Around} {s : Shared} {R : Result → Shared → Prop} {e it l S : Addr} {items : List Value} {res : Value}
theorem en_loop (hh : A.handled = none) (eS : e < S) (iS : it < S) (lS : l ≠ S) (ne : e ≠ it) (le : l ≠ e) (li : l ≠ it) (hn : items.length ≤ sizeLine) {h0 : Heap}
    (hR : ∀ h' tk acc c as, (∀ b o, b ≠ S → b ≠ e → b ≠ it → h0.get? b = some o → h'.get? b = some o) → h'.get? S = some { cls := .type "list", dict := none, data := .seq acc c, slots := #[] } → as.length = items.length → Pairs items S h' as →
      acc.toList = as.map Value.ref → R (.ok (.ret res)) { s with heap := h', toks := tk }) :
    ∀ (k i : Nat) (h : Heap) (tk c : Nat) (acc : Array Value) (as : List Addr), items.length - i = k → i ≤ items.length → EnS h e it S i → h.IsListIter it l i → h.IsList l items.toArray → (∀ b o, b ≠ S → b ≠ e → b ≠ it → h0.get? b = some o → h.get? b = some o) →
      h.get? S = some { cls := .type "list", dict := none, data := .seq acc c, slots := #[] } → acc.toList = as.map Value.ref → as.length = i → Pairs items S h as →
      codeAny (model P w) A (.builtin "list.extend.loop" ⟨[.ref S, .ref e, res], []⟩) R { s with heap := h, toks := tk } := by
  have nS : S ≠ e := Nat.ne_of_gt eS
  have nI : S ≠ it := Nat.ne_of_gt iS
  intro k
  induction k with
  | zero =>
    intro i h tk c acc as hk hi st sit sl keep hS hacc many G
    have full : i = items.length := by omega
    refine codeAny_builtin F.entry_extend_loop ?_
    rw [Around.under_plainId F.plain_extend_loop _]
    show wpAny _ A.in1 (pyNext (.ref e) >>= _) _ _ _
    refine wpAny_bind (en_end (s := { s with heap := h, toks := tk }) (A := A.in1) hh st sit sl (by simp; omega) fun h' he => ?_)
    refine wpAny_pure (hR h' tk acc c as (fun b o h1 h2 h3 q => he b o h3 (keep b o h1 h2 h3 q)) (he S _ nI hS) (by omega) ⟨G.rise, G.above, fun j a hj => ?_⟩ hacc)
    obtain ⟨t, x, q1, q2⟩ := G.pairs j a hj
    have up := G.above a (List.mem_of_getElem? hj)
    exact ⟨t, x, q1, he a _ (Nat.ne_of_gt (Nat.lt_trans iS up)) q2⟩
  | succ k ih =>
    intro i h tk c acc as hk hi st sit sl keep hS hacc many G
    have low : i < items.length := by omega
    obtain ⟨x, hx⟩ : ∃ x, items[i]? = some x := ⟨items[i], List.getElem?_eq_getElem low⟩
    have sz : acc.size = i := by rw [← Array.length_toList, hacc, List.length_map, many]
    have Sl : S < h.objs.size := Heap.lt_size hS
    refine codeAny_builtin F.entry_extend_loop ?_
    rw [Around.under_plainId F.plain_extend_loop _]
    show wpAny _ A.in1 (pyNext (.ref e) >>= _) _ _ _
    refine wpAny_bind (en_item (s := { s with heap := h, toks := tk }) (S := S) st Sl sit sl (x := x) (by simpa using hx) ne fun h' st' sit' ht hz kp => ?_)
    dsimp only at ht hz kp ⊢
    have hS' := kp S _ nS nI hS
    have sl' : h'.IsList l items.toArray := sl.at fun o q => kp l o le li q
    have up : ∀ b o, b ≠ S → h'.get? b = some o → (h'.update S (Obj.mapSeq (·.push (Value.ref h.objs.size)))).get? b = some o := fun b o hb q => (Heap.get?_update_other _ _ (Ne.symm hb)).trans q
    show wpAny _ A.in1 (updateSeq S (·.push (Value.ref h.objs.size)) >>= _) _ _ _
    refine wpAny_bind ?_
    refine wpAny_updateSeq hS' rfl (wpAny_pure ⟨plainId_quiet F.plain_extend_loop _, ?_⟩) (by rw [sz]; omega) (by show (acc.push (Value.ref h.objs.size)).size ≤ sizeLine + 1; rw [Array.size_push, sz]; omega)
    refine ih (i + 1) _ (tk + 1) _ (acc.push (Value.ref h.objs.size)) (as ++ [h.objs.size]) (by omega) low (st'.keep up (Ne.symm nS)) (sit'.at fun o q => up it o (Ne.symm nI) q) (sl'.at fun o q => up l o lS q)
      (fun b o h1 h2 h3 q => up b o h1 (kp b o h2 h3 (keep b o h1 h2 h3 q))) (Heap.get?_update_self _ hS' rfl) (by rw [Array.toList_push, hacc, List.map_append]; rfl) (by rw [List.length_append, many]; rfl) ⟨?_, ?_, ?_⟩
    · refine List.pairwise_append.mpr ⟨G.rise, List.pairwise_singleton _ _, fun a ha b hb => ?_⟩
      rw [List.mem_singleton.mp hb]
      exact G.past ha
    · intro a ha
      rcases List.mem_append.mp ha with ha | ha
      · exact G.above a ha
      · rw [List.mem_singleton.mp ha]
        exact Sl
    · intro j b hj
      by_cases h1 : j < as.length
      · rw [List.getElem?_append_left h1] at hj
        obtain ⟨t, y, q1, q2⟩ := G.pairs j b hj
        have ab := G.above b (List.mem_of_getElem? hj)
        exact ⟨t, y, q1, up b _ (Nat.ne_of_gt ab) (kp b _ (Nat.ne_of_gt (Nat.lt_trans eS ab)) (Nat.ne_of_gt (Nat.lt_trans iS ab)) q2)⟩
      · by_cases h2 : j = as.length
        · subst h2
          have hb : h.objs.size = b := by simpa using hj
          subst hb
          refine ⟨tk, x, by rw [many]; exact hx, ?_⟩
          rw [many]
          exact up _ _ (Nat.ne_of_gt Sl) ht
        · have gone : (as ++ [h.objs.size])[j]? = none := List.getElem?_eq_none (by rw [List.length_append, List.length_singleton]; omega)
          rw [gone] at hj
          cases hj
end
section
variable {P : Program} {w : World} {A : Around} {s : Shared} {R : Result → Shared → Prop} {e it l S : Addr} {items : List Value} {res : Value}
theorem en_extend (hh : A.handled = none) (eS : e < S) (iS : it < S) (lS : l ≠ S) (ne : e ≠ it) (le : l ≠ e) (li : l ≠ it) (hn : items.length ≤ sizeLine) (he : IsEnum s.heap e it 0 .none) (hit : s.heap.IsListIter it l 0) (hl : s.heap.IsList l items.toArray) (c0 : Nat) (hS : s.heap.get? S = some { cls := .type "list", data := .seq #[] c0 })
    (hR : ∀ h' tk acc c as, (∀ b o, b ≠ S → b ≠ e → b ≠ it → s.heap.get? b = some o → h'.get? b = some o) → h'.get? S = some { cls := .type "list", dict := none, data := .seq acc c, slots := #[] } → as.length = items.length → Pairs items S h' as →
      acc.toList = as.map Value.ref → R (.ok (.ret res)) { s with heap := h', toks := tk }) :
    wpAny (model P w) A.in1 (Builtin.List.listExtendWith (.ref S) (.ref e) res)
      (fun fin s' => match fin with | .done f => R (.ok f) s' | .again c' => c'.quiet = true ∧ codeAny (model P w) A c' R s') (fun e s' => R (.error e) s') s := by
  have ty : s.TypeIs (.ref e) "enumerate" := ⟨_, he, rfl⟩
  have nS : S ≠ e := Nat.ne_of_gt eS
  unfold Builtin.List.listExtendWith
  refine wpAny_bind (wpAny_typeOf ty ?_)
  have q1 : Builtin.List.listSameRef (.ref S) (.ref e) = false := by simp [Builtin.List.listSameRef, nS]
  have q2 : (Value.type "enumerate" == Value.type "list") = false := by decide
  have q3 : (Value.type "enumerate" == Value.type "tuple") = false := by decide
  simp only [q1, q2, q3, Bool.or_false, Bool.false_eq_true, if_false]
  refine wpAny_bind (wpAny_pyIter_enum he ?_)
  refine wpAny_bind (wpAny_holding ?_)
  unfold Builtin.List.listLengthHint
  refine wpAny_bind (wpAny_specialOf ty enum_no_len ?_)
  show wpAny _ A.in1 (specialOf (Value.ref e) (Str.ofString "__length_hint__") >>= _) _ _ _
  refine wpAny_bind (wpAny_specialOf ty enum_no_hint ?_)
  apply wpAny_pure
  show wpAny _ A.in1 (rule "list.extend.makes-room" >>= fun _ => Builtin.List.listTouch (.ref S) >>= fun _ => again (.builtin "list.extend.loop" ⟨[.ref S, .ref e, res], []⟩)) _ _ _
  refine wpAny_bind (wpAny_rule ?_)
  refine wpAny_bind ?_
  show wpAny _ A.in1 (updateSeq S (·.push .none) >>= fun _ => updateSeq S (·.pop)) _ _ _
  refine wpAny_bind (wpAny_updateSeq hS rfl ?_)
  have s2 := Heap.get?_update_self (Obj.mapSeq (·.push Value.none)) hS rfl
  refine wpAny_updateSeq (hz := by seq_fits) s2 rfl ?_
  have s3 := Heap.get?_update_self (Obj.mapSeq (·.pop)) s2 rfl
  have oth : ∀ b o, b ≠ S → s.heap.get? b = some o → ((s.heap.update S (Obj.mapSeq (·.push Value.none))).update S (Obj.mapSeq (·.pop))).get? b = some o := by
    intro b o hb q
    exact (Heap.get?_update_other _ _ (Ne.symm hb)).trans ((Heap.get?_update_other _ _ (Ne.symm hb)).trans q)
  refine wpAny_pure ⟨plainId_quiet F.plain_extend_loop _, ?_⟩
  exact en_loop (h0 := s.heap) hh eS iS lS ne le li hn hR items.length 0 _ s.toks _ #[] [] (Nat.sub_zero _) (Nat.zero_le _) (.inl ⟨.none, oth e _ (Ne.symm nS) he⟩) (hit.at fun o q => oth it o (Nat.ne_of_lt iS) q) (hl.at fun o q => oth l o lS q) (fun b o h1 _ _ q => oth b o h1 q) s3 rfl rfl
    ⟨List.Pairwise.nil, (fun _ ha => nomatch ha), fun j a hj => by simp at hj⟩
end
section
variable {P : Program} {w : World} {A : Around} {E : Value → Shared → Prop} {s : Shared} {e it l : Addr} {items : List Value} {Q : Value → Shared → Prop}
theorem en_list (hh : A.handled = none) (ne : e ≠ it) (le : l ≠ e) (li : l ≠ it) (hn : items.length ≤ sizeLine) (he : IsEnum s.heap e it 0 .none) (hit : s.heap.IsListIter it l 0) (hl : s.heap.IsList l items.toArray)
    (hQ : ∀ h' tk acc c as, (∀ b o, b ≠ e → b ≠ it → s.heap.get? b = some o → h'.get? b = some o) → h'.get? s.heap.objs.size = some { cls := .type "list", dict := none, data := .seq acc c, slots := #[] } → as.length = items.length → Pairs items s.heap.objs.size h' as →
      acc.toList = as.map Value.ref → Q (.ref s.heap.objs.size) { s with heap := h', toks := tk }) :
    wpAny (model P w) A (call (.type "list") [.ref e]) Q E s := by
  have el : e < s.heap.objs.size := Heap.lt_size he
  have il : it < s.heap.objs.size := by
    obtain ⟨o, q, _⟩ := hit
    exact Heap.lt_size q
  have ll : l < s.heap.objs.size := by
    obtain ⟨o, q, _⟩ := hl
    exact Heap.lt_size q
  refine callType_codes (Q₁ := fun obj s₁ => obj = .ref s.heap.objs.size ∧ s₁ = { s with heap := s.heap.push { cls := .type "list", data := .seq #[] } }) F.called_list (F.typeCall_list_1 _) F.entry_list_init (code_list_new _ ⟨rfl, rfl⟩) fun obj s₁ h₁ => ?_
  obtain ⟨rfl, rfl⟩ := h₁
  have hS : (s.heap.push { cls := .type "list", data := .seq #[] }).get? s.heap.objs.size = some { cls := .type "list", data := .seq #[] } := Heap.get?_push_size _ rfl
  refine ⟨⟨_, hS, rfl⟩, F.args_list_init_2 _ _, ?_⟩
  show wpAny _ _ (do let old ← Builtin.List.listItems (.ref s.heap.objs.size); Builtin.List.listUpdate (.ref s.heap.objs.size) (fun _ => #[]); letGo old.toList.reverse; Builtin.List.listExtendWith (.ref s.heap.objs.size) (.ref e) .none) _ _ _
  refine wpAny_bind ?_
  unfold Builtin.List.listItems
  refine wpAny_bind (wpAny_seqItems hS rfl (wpAny_pure ?_))
  show wpAny _ _ (updateSeq s.heap.objs.size (fun _ => #[]) >>= fun _ => letGo (#[] : Array Value).toList.reverse >>= fun _ => Builtin.List.listExtendWith (.ref s.heap.objs.size) (.ref e) .none) _ _ _
  refine wpAny_bind (wpAny_updateSeq hS rfl ?_)
  have s2 := Heap.get?_update_self (Obj.mapSeq (fun _ => (#[] : Array Value))) hS rfl
  have oth : ∀ b o, b ≠ s.heap.objs.size → s.heap.get? b = some o → ((s.heap.push { cls := .type "list", data := .seq #[] }).update s.heap.objs.size (Obj.mapSeq (fun _ => (#[] : Array Value)))).get? b = some o := by
    intro b o hb q
    exact (Heap.get?_update_other _ _ (Ne.symm hb)).trans (Heap.get?_push_of_some _ q)
  refine wpAny_bind (wpAny_letGo ?_)
  refine en_extend (A := A.in1) hh el il (Nat.ne_of_lt ll) ne le li hn (oth e _ (Nat.ne_of_lt el) he) (hit.at fun o q => oth it o (Nat.ne_of_lt il) q) (hl.at fun o q => oth l o (Nat.ne_of_lt ll) q) _ s2 ?_
  intro h' tk acc c as hk hS' hl' hG hacc
  exact ⟨rfl, hQ h' tk acc c as (fun b o h1 h2 q => hk b o (Nat.ne_of_lt (Heap.lt_size q)) h1 h2 (oth b o (Nat.ne_of_lt (Heap.lt_size q)) q)) hS' hl' hG hacc⟩
end
end EvX

namespace EvX
open PySem PySem.Spec PySem.Calls PyProof.Rows L2
/-- the list at S of the pairs at as -/
def layP (H : Hp) (S : Addr) (as : List Addr) (xs : List V) : Hp := fun b => if b = S then some (.lst (as.map V.ref)) else if b ∈ as then some (.tup [.int (as.idxOf b : Nat), xs.getD (as.idxOf b) .non]) else H b
section
variable {X : Cx} {pins : List (Addr × Obj)} {σ : L2.St} {H : Hp} {s : Shared} {h' : Heap} {S : Addr} {as : List Addr} {xs : List V} {items : List Value} {acc : Array Value} {c tk : Nat}
theorem vals_at {xs : List V} {us : List Value} (r : Vals xs us) : ∀ (j : Nat) (u : Value), us[j]? = some u → RelV (xs.getD j .non) u := by
  induction r with
  | nil =>
    intro j u h
    cases h
  | @cons x y xs us rx _ ih =>
    intro j u h
    cases j with
    | zero =>
      have e : y = u := by simpa using h
      subst e
      exact rx
    | succ j => exact ih j u (by simpa using h)
theorem pairs_laid (I : Inv X pins σ H s) (rv : Vals xs items) (hz : items.length ≤ sizeLine) (low : s.heap.objs.size ≤ S) (hk : ∀ b o, s.heap.get? b = some o → h'.get? b = some o) (hS : h'.get? S = some { cls := .type "list", dict := none, data := .seq acc c, slots := #[] })
    (hl : as.length = items.length) (G : Pairs items S h' as) (hacc : acc.toList = as.map Value.ref) :
    Ext H (layP H S as xs) ∧ (∀ (j : Nat) (t : Addr), as[j]? = some t → layP H S as xs t = some (.tup [.int (j : Nat), xs.getD j .non])) ∧ Inv X pins σ (layP H S as xs) { s with heap := h', toks := tk } := by
  have outS : S ∉ as := fun z => Nat.lt_irrefl _ (G.above _ z)
  have nd : as.Nodup := List.Pairwise.imp (fun {a b} (h : a < b) => Nat.ne_of_lt h) G.rise
  have newS : H S = none := I.hok.fresh low
  have newT : ∀ t ∈ as, H t = none := fun t ht => I.hok.fresh (Nat.le_trans low (Nat.le_of_lt (G.above t ht)))
  have atS : layP H S as xs S = some (.lst (as.map V.ref)) := if_pos rfl
  have atT : ∀ t ∈ as, layP H S as xs t = some (.tup [.int (as.idxOf t : Nat), xs.getD (as.idxOf t) .non]) := by
    intro t ht
    unfold layP
    have ne : t ≠ S := fun z => outS (by rw [← z]; exact ht)
    rw [if_neg ne, if_pos ht]
  have off : ∀ b, b ≠ S → b ∉ as → layP H S as xs b = H b := by
    intro b h1 h2
    unfold layP
    rw [if_neg h1, if_neg h2]
  have kp : Ext H (layP H S as xs) := by
    intro b u q
    rw [off b (ne_of_none q newS) fun z => by rw [newT b z] at q; cases q]
    exact q
  have past : ∀ b o, s.heap.get? b = some o → b ≠ S ∧ b ∉ as := by
    intro b o q
    have lt := Heap.lt_size q
    refine ⟨Nat.ne_of_lt (Nat.lt_of_lt_of_le lt low), fun z => ?_⟩
    exact absurd (Nat.lt_trans (Nat.lt_of_lt_of_le lt low) (G.above b z)) (Nat.lt_irrefl _)
  refine ⟨kp, fun j t hj => ?_, ?_⟩
  · have ht : t ∈ as := List.mem_of_getElem? hj
    have jl : j < as.length := by
      rcases Nat.lt_or_ge j as.length with z | z
      · exact z
      · rw [List.getElem?_eq_none z] at hj
        cases hj
    have e : as.idxOf t = j := by
      have il : as.idxOf t < as.length := List.idxOf_lt_length_of_mem ht
      refine (List.getElem?_inj il nd).mp ?_
      rw [List.getElem?_eq_getElem il, List.getElem_idxOf il, hj]
    rw [atT t ht, e]
  · refine I.call' (ch := []) rfl ⟨fun b o q _ _ _ => hk b o q, fun b o q _ _ _ => ⟨o.slots, hk b o q⟩, fun b o q n _ => ?_, fun b o q _ => ⟨o, hk b o q⟩, fun b xs q => kp b _ q, fun b o u q => kp b _ q, fun b ps q => ⟨#[], by rw [kp b _ q]; simp⟩⟩ (fun b u q => ?_) I.bare fun b z => by simp at z
    · obtain ⟨z1, z2⟩ := past b o q
      rw [off b z1 z2]
      exact n
    · by_cases hb : b ∈ as
      · rw [atT b hb] at q
        cases q
        have il : as.idxOf b < as.length := List.idxOf_lt_length_of_mem hb
        have hj : as[as.idxOf b]? = some b := by rw [List.getElem?_eq_getElem il, List.getElem_idxOf il]
        obtain ⟨t, x, f1, f2⟩ := G.pairs _ b hj
        refine ⟨by show 2 ≤ sizeLine; decide, [.int (as.idxOf b : Nat) t, x], .cons ⟨t, rfl⟩ (.cons (vals_at rv _ _ f1) .nil), ?_⟩
        exact ⟨_, f2, rfl, _, rfl⟩
      · by_cases hb2 : b = S
        · subst hb2
          rw [atS] at q
          cases q
          refine ⟨by rw [List.length_map, hl]; exact hz, acc.toList, c, ?_, ?_⟩
          · rw [hacc]
            exact LiI.vals_refs as
          · rw [Array.toArray_toList]
            exact hS
        · rw [off b hb2 hb] at q
          exact (I.hok b u q).stay (fun d v _ y => hk d v y) (fun d y => kp d _ y) fun d ys y => kp d _ y
end
def tLsEnum (K : PySem.W.Frag) (ta : TA) : TE := fun σ H Q => ta σ H fun vs H1 => ∃ l xs, vs = [.ref l] ∧ SqL K H1 l xs ∧
  ∀ (p : Addr) (ts : List Addr) (H' : Hp), Ext H1 H' → H' p = some (.lst (ts.map V.ref)) → ts.length = xs.length → (∀ (j : Nat) (t : Addr), ts[j]? = some t → H' t = some (.tup [.int (j : Nat), xs.getD j .non])) → Q (.ref p) H'
section
variable {X : Cx} {e : Expr} {ta : TA} {p p2 pos pos2 : Pos}
theorem pe_lsEnum (hc : X.calm = true) (ha : PA X [e] ta) (hg : Gl X "list") (hm : X.mg "list" = none) (hv : bootBuiltins "list" = some (.type "list")) (hg2 : Gl X "enumerate") (hm2 : X.mg "enumerate" = none)
    (hs : starEach [.Call (.Name "enumerate" p2) [e] [] pos2] X.env = (false, eval (.Call (.Name "enumerate" p2) [e] [] pos2) X.env) :: starEach [] X.env := by rfl) (hs2 : starEach [e] X.env = [(false, eval e X.env)] := by rfl) :
    PE X (.Call (.Name "list" p) [.Call (.Name "enumerate" p2) [e] [] pos2] [] pos) (tLsEnum X.K ta) := by
  constructor
  intro pins s σ H Q I h
  refine wpAny_Call_Name_kw (ld_blt I hg hm hv ?_)
  refine PyProof.Rows.callWith_type1 ?_ hs rfl
  rw [hs]
  show wpAny _ _ (spliced ((false, eval (.Call (.Name "enumerate" p2) [e] [] pos2) X.env) :: backTo pos (starEach [] X.env))) _ _ s
  refine Calls.spliced_cons ?_
  refine wpAny_Call_Name_kw (ld_blt I hg2 hm2 boot_enumerate (PyProof.Rows.callWith_type1 (thn (ha.run pos2 pins s σ H _ I h) ?_) hs2 rfl))
  rintro us s1 ⟨vs, H1, I1, r1, l, xs, rfl, hq, q⟩
  cases r1 with
  | cons r rr =>
    cases rr
    cases r
    obtain ⟨its, rv, p', hz⟩ := I1.list hq
    have ll : l < s1.heap.objs.size := by
      obtain ⟨o, z, _⟩ := p'.isList
      exact Heap.lt_size z
    refine call_enumerate_list p'.isList fun h1 he hit hsz hk => ?_
    refine Calls.spliced_nil ?_
    have li : h1.IsList l its.toArray := p'.isList.at fun o z => hk l o z
    have lk : its.length ≤ sizeLine := by
      rw [← rv.length]
      exact hz
    refine en_list (s := { s1 with heap := h1 }) (I1.ok.hd hc) (Nat.succ_ne_self _) (Nat.ne_of_lt (Nat.lt_succ_of_lt ll)) (Nat.ne_of_lt ll) lk he hit li ?_
    intro h2 tk acc c as hk2 hS hl hG hacc
    have sz2 : h1.objs.size = s1.heap.objs.size + 2 := hsz
    obtain ⟨k1, k2, J⟩ := pairs_laid (xs := xs) (tk := tk) I1 rv lk (S := h1.objs.size) (by omega) (fun b o z => hk2 b o (Nat.ne_of_lt (Nat.lt_succ_of_lt (Heap.lt_size z))) (Nat.ne_of_lt (Heap.lt_size z)) (hk b o z)) hS hl hG hacc
    exact ⟨.ref h1.objs.size, _, J, rfl, q h1.objs.size as _ k1 (if_pos rfl) (by rw [hl]; exact rv.length.symm) k2⟩
end
end EvX

/-! repr of data with dicts -/
namespace EvX
open PySem PySem.Spec PySem.Calls PyProof.Rows L2
section
variable {X : Cx}
def tLstX (t : TA) : TE := fun σ H Q => t σ H fun xs H1 => xs.length ≤ sizeLine ∧ ∀ p, H1 p = none → p ≠ sysModules → Q (.ref p) (upd H1 p (.lst xs))
theorem pe_lstX {es : List Expr} {t : TA} {pos : Pos} (h : PA X es t) : PE X (.List es pos) (tLstX t) := by
  constructor
  intro pins s σ H Q I hq
  refine wpAny_List_spliced (thn (h.run pos pins s σ H _ I hq) ?_)
  rintro us s1 ⟨xs, H1, I1, r, z, q⟩
  refine ⟨by rw [← r.length]; exact z, ?_⟩
  have J := I1.laid (t' := s1.toks) (a := s1.heap.objs.size) (o := .lst xs) (fun b u e => Heap.get?_push_of_some { cls := .type "list", data := .seq us.toArray } e) (Nat.le_refl _) ⟨z, us, 0, r, Heap.get?_push_size _ rfl⟩
  exact ⟨.ref s1.heap.objs.size, _, J, rfl, q _ (I1.hok.fresh (Nat.le_refl _)) (Nat.ne_of_gt I1.big)⟩
/-- a list of one thing, times none or one -/
def rRepX : R2 := fun x y H Q => ∃ l k v, x = .ref l ∧ y = .int k ∧ H l = some (.lst [v]) ∧ 0 ≤ k ∧ k ≤ 1 ∧ ∀ p, H p = none → p ≠ sysModules → Q (.ref p) (upd H p (.lst (List.replicate k.toNat v)))
theorem op_repX : OpR X (binaryOp .Mult) rRepX := by
  intro pins s σ H x y v u Q I rx ry h
  obtain ⟨l, k, c, rfl, rfl, hH, k0, k1, q⟩ := h
  cases rx
  obtain ⟨t, rfl⟩ := ry
  obtain ⟨z, its, n, r, hl, e⟩ := I.lstM hH
  obtain ⟨i, rfl, ri⟩ : ∃ i, its = [i] ∧ RelV c i := by
    cases r with
    | cons r1 r2 =>
      cases r2
      exact ⟨_, rfl, r1⟩
  have low : k.toNat ≤ 1 := by omega
  have f1 : ¬ [i].toArray.size * k.toNat > (2 ^ 63 - 1) / 8 := by
    show ¬ 1 * k.toNat > (2 ^ 63 - 1) / 8
    omega
  have f2 : ¬ (!Builtin.List.listFitsIndex k) = true := by
    rw [fitsIndex_both (by omega) (by omega)]
    decide
  have f3 : ¬ Builtin.List.listTooLong ([i].toArray.size * k.toNat) = true := by
    rw [notLongL (show [i].toArray.size * k.toNat ≤ sizeLine from Nat.le_trans (show 1 * k.toNat ≤ 1 by omega) (by decide))]
    decide
  have made : List.foldl (fun x1 x2 => x1 ++ x2) #[] (List.replicate (if [i].toArray.isEmpty = true then 0 else k.toNat) [i].toArray) = (List.replicate k.toNat i).toArray := by
    rcases (show k.toNat = 0 ∨ k.toNat = 1 by omega) with z | z <;> rw [z] <;> rfl
  have rr : Vals (List.replicate k.toNat c) (List.replicate k.toNat i) := by
    rcases (show k.toNat = 0 ∨ k.toNat = 1 by omega) with z | z <;> rw [z]
    · exact .nil
    · exact .cons ri .nil
  refine wpAny_binaryOp_repeat_ref (T := "list") (U := "int") (by decide) ⟨_, e, rfl⟩ (fun s' => typeIs_int s' k t) noFill_list_mul F.fills_int_mul F.slot_int_rmul repeat_list F.slot_int_index.lookup ?_
  refine call_meets F.slot_int_rmul (typeIs_int s k t) F.entry_int_rmul (F.args_int_rmul_2 _ _) (int___rmul___int_list k t l [i].toArray n) ⟨e, rfl, ⟨_, e, rfl⟩, ?_⟩
  refine call_meets F.slot_list_mul ⟨_, e, rfl⟩ F.entry_list_mul (F.args_list_mul_2 _ _) (AutoListH.list___mul___list_int_3 l [i].toArray n k t f2 f1 f3) ⟨e, ?_⟩
  rw [made]
  exact ⟨.ref _, _, I.lnew (t' := s.toks) rr (by rw [List.length_replicate]; exact Nat.le_trans low (by decide)), rfl, q _ I.fresh (Nat.ne_of_gt I.big)⟩
end
/-- the data that a value tells, dicts among them -/
def kD : Key → PyData
  | .inl i => .int i
  | .inr x => .str x
mutual
inductive Dx (H : Hp) : V → PyData → Prop
  | non : Dx H .non .none
  | bl (b : Bool) : Dx H (.bl b) (.bool b)
  | int (i : Int) : Dx H (.int i) (.int i)
  | str (x : Str) : Dx H (.str x) (.str x)
  | lst {a : Addr} {xs : List V} {ds : List PyData} : H a = some (.lst xs) → a ≠ sysModules → DxAll H xs ds → Dx H (.ref a) (.list ds)
  | tup {a : Addr} {xs : List V} {ds : List PyData} : H a = some (.tup xs) → DxAll H xs ds → Dx H (.ref a) (.tuple ds)
  | dct {a : Addr} {kvs : List (Key × V)} {ds : List (PyData × PyData)} : H a = some (.dK kvs) → ds.map (·.1) = kvs.map (fun p => kD p.1) → DxAll H (kvs.map (·.2)) (ds.map (·.2)) → Dx H (.ref a) (.dict ds)
inductive DxAll (H : Hp) : List V → List PyData → Prop
  | nil : DxAll H [] []
  | cons {v : V} {vs : List V} {d : PyData} {ds : List PyData} : Dx H v d → DxAll H vs ds → DxAll H (v :: vs) (d :: ds)
end
mutual
theorem Dx.ext {H H' : Hp} (e : Ext H H') : ∀ {v : V} {d : PyData}, Dx H v d → Dx H' v d
  | _, _, .non => .non
  | _, _, .bl b => .bl b
  | _, _, .int i => .int i
  | _, _, .str x => .str x
  | _, _, .lst h n a => .lst (e _ _ h) n (DxAll.ext e a)
  | _, _, .tup h a => .tup (e _ _ h) (DxAll.ext e a)
  | _, _, .dct h k a => .dct (e _ _ h) k (DxAll.ext e a)
theorem DxAll.ext {H H' : Hp} (e : Ext H H') : ∀ {vs : List V} {ds : List PyData}, DxAll H vs ds → DxAll H' vs ds
  | _, _, .nil => .nil
  | _, _, .cons h a => .cons (Dx.ext e h) (DxAll.ext e a)
end
theorem readsKeys {P : Program} {w : World} {h : Heap} {es : List DictEntry} {vs : List (Key × Value)} (p : PySem.Pairs (mixKind P w) es vs) : ReadsAll h (es.map (·.key)) (vs.map fun q => kD q.1) [] ∧ es.map (·.val) = vs.map (·.2) := by
  induction p with
  | nil => exact ⟨.nil, rfl⟩
  | @cons e kv es kvs hk hv _ ih =>
    obtain ⟨h1, h2⟩ := ih
    refine ⟨?_, by rw [List.map_cons, List.map_cons, h2, hv]⟩
    have one : Reads h e.key (kD kv.1) [] := by
      rcases keyIs_shape (show keyIs kv.1 e.key = true from hk) with ⟨i, t, z1, z2⟩ | ⟨x, t, z1, z2⟩
      · rw [z1, z2]
        exact .int i t
      · rw [z1, z2]
        exact .str x t
    exact ReadsAll.cons one h1
section
variable {X : Cx} {pins : List (Addr × Obj)} {σ : L2.St} {H : Hp} {s : Shared}
theorem kv_vals : ∀ {kvs : List (Key × V)} {vs : List (Key × Value)}, KV kvs vs → Vals (kvs.map (·.2)) (vs.map (·.2)) ∧ (kvs.map fun p => kD p.1) = vs.map fun q => kD q.1
  | [], [], .nil => ⟨.nil, rfl⟩
  | p :: kvs, q :: vs, .cons h t => by
    obtain ⟨h1, h2⟩ := kv_vals t
    exact ⟨.cons h.2 h1, by rw [List.map_cons, List.map_cons, h2, h.1]⟩
mutual
theorem Dx.reads (I : Inv X pins σ H s) : ∀ (d : PyData) (v : V) (u : Value), Dx H v d → RelV v u → ∃ as, Reads s.heap u d as ∧ sysModules ∉ as
  | .none, _, _, h, r => by
    cases h
    cases r
    exact ⟨[], Reads.none, by simp⟩
  | .bool b, _, _, h, r => by
    cases h
    cases r
    exact ⟨[], Reads.bool b, by simp⟩
  | .int i, _, _, h, r => by
    cases h
    obtain ⟨t, rfl⟩ := r
    exact ⟨[], Reads.int i t, by simp⟩
  | .str x, _, _, h, r => by
    cases h
    obtain ⟨t, rfl⟩ := r
    exact ⟨[], Reads.str x t, by simp⟩
  | .list ds, _, _, h, r => by
    cases h with
    | lst hs n ha =>
      cases r
      obtain ⟨z, its, m, rv, _, e⟩ := I.lstM hs
      obtain ⟨as, hr, o⟩ := Dx.readsAll I ds _ its ha rv
      exact ⟨_, Reads.list e rfl rfl hr, by simp [o, Ne.symm n]⟩
  | .tuple ds, _, _, h, r => by
    cases h with
    | tup hs ha =>
      cases r
      obtain ⟨z, its, rv, ⟨o, ho, hc, m, hd⟩⟩ := (show ObjOk X.prog X.w H s.heap _ (.tup _) from I.hok _ _ hs)
      obtain ⟨as, hr, q⟩ := Dx.readsAll I ds _ its ha rv
      exact ⟨_, Reads.tuple ho hc hd hr, q⟩
  | .dict ds, _, _, h, r => by
    cases h with
    | dct hs hk ha =>
      cases r
      obtain ⟨z, hsys, vs, kv, ⟨o, es, ep, ho, hx, hd, _, hp, _⟩⟩ := (show ObjOk X.prog X.w H s.heap _ (.dK _) from I.hok _ _ hs)
      obtain ⟨v1, v2⟩ := kv_vals kv
      obtain ⟨k1, k2⟩ := readsKeys (h := s.heap) hp
      obtain ⟨as, hr, q⟩ := Dx.readsAllP I ds _ _ ha v1
      have ks : ReadsAll s.heap (es.toList.map (·.key)) (ds.map (·.1)) [] := by
        rw [hk, v2]
        exact k1
      have vals : ReadsAll s.heap (es.toList.map (·.val)) (ds.map (·.2)) as := by
        rw [k2]
        exact hr
      refine ⟨_, Reads.dict ho hx.1 hd ks vals, ?_⟩
      have ne := beq_eq_false_iff_ne.mp hsys
      simp [q, Ne.symm ne]
theorem Dx.readsAll (I : Inv X pins σ H s) : ∀ (ds : List PyData) (vs : List V) (us : List Value), DxAll H vs ds → Vals vs us → ∃ as, ReadsAll s.heap us ds as ∧ sysModules ∉ as
  | [], _, _, h, r => by
    cases h
    cases r
    exact ⟨_, ReadsAll.nil, by simp⟩
  | d :: ds, _, _, h, r => by
    cases h with
    | cons h1 h2 =>
      cases r with
      | cons r1 r2 =>
        obtain ⟨as, q1, o1⟩ := Dx.reads I d _ _ h1 r1
        obtain ⟨bs, q2, o2⟩ := Dx.readsAll I ds _ _ h2 r2
        exact ⟨_, ReadsAll.cons q1 q2, by simp [o1, o2]⟩
theorem Dx.readsAllP (I : Inv X pins σ H s) : ∀ (ds : List (PyData × PyData)) (vs : List V) (us : List Value), DxAll H vs (ds.map (·.2)) → Vals vs us → ∃ as, ReadsAll s.heap us (ds.map (·.2)) as ∧ sysModules ∉ as
  | [], _, _, h, r => by
    cases h
    cases r
    exact ⟨_, ReadsAll.nil, by simp⟩
  | d :: ds, _, _, h, r => by
    cases h with
    | cons h1 h2 =>
      cases r with
      | cons r1 r2 =>
        obtain ⟨as, q1, o1⟩ := Dx.reads I d.2 _ _ h1 r1
        obtain ⟨bs, q2, o2⟩ := Dx.readsAllP I ds _ _ h2 r2
        exact ⟨_, ReadsAll.cons q1 q2, by simp [o1, o2]⟩
end
def rReprX : List V → Hp → VK → Prop := fun xs H Q => ∃ (a : Addr) (d : PyData), xs = [.ref a] ∧ Dx H (.ref a) d ∧ d.showable = true ∧ d.depth ≤ 40 ∧ d.shown.length ≤ sizeLine ∧ Q (.str d.shown) H
theorem call_reprX (g : X.A.guards = some []) (hu : X.A.units + 64 < cLine) : CallR X (.builtin "repr") rReprX := by
  intro pins s σ H xs us Q I r h
  obtain ⟨a, d, rfl, hd, sh, dep, sz, q⟩ := h
  cases r with
  | cons r1 r2 =>
    cases r2
    obtain ⟨as, rd, out⟩ := Dx.reads I d _ _ hd r1
    cases r1
    exact repr_of_reads' rd sh (fun _ => out) g (by omega) (fun _ _ e => e) (fun h' u tk k => ⟨.str d.shown, H, I.kept k, ⟨_, rfl⟩, q⟩) sz
end
end EvX

/-! The errors of this program: their classes by numbers. -/
namespace EvX
open PySem PySem.Spec PySem.Calls PyProof.Rows L2 EvG
def nm (i : Nat) : Str := (["InvalidVector", "InvalidBook", "InvalidPart", "InvalidNet", "InvalidCourse", "InvalidWeighting", "InvalidDeed", "InvalidItem", "InvalidCosts", "InvalidCount", "NotComparable", "InvalidText", "UnknownCommand", "UnknownName", "NoItem", "TooMany", "NothingToUndo", "NetError", "MissingError"] : List Str).getD i ""
/-- the fields, in the order of the parameters -/
def fld (i : Nat) : List Str := ([[], ["reason"], ["reason"], ["reason", "name"], ["reason"], ["reason"], ["reason"], ["index"], ["name"], ["name"], ["reason"], ["line", "word"], ["word"], ["name"], ["number"], ["limit"], ["count"], [], []] : List (List Str)).getD i []
def FF (ns : List Str) (ys : List V) : List (Str × V) := (ns.zip ys).reverse
def tVE : List Value := [.type "ValueError", .type "Exception", .type "BaseException", .type "object"]
def tLE : List Value := [.type "LookupError", .type "Exception", .type "BaseException", .type "object"]
def tOE : List Value := [.type "OverflowError", .type "ArithmeticError", .type "Exception", .type "BaseException", .type "object"]
def tIE : List Value := [.type "IndexError", .type "LookupError", .type "Exception", .type "BaseException", .type "object"]
/-- what a class stands over -/
def over (c : Nat → Addr) (i : Nat) : List Value := if i < 13 then .ref (c 17) :: tVE else if i < 15 then .ref (c 18) :: tLE else if i = 15 then tOE else if i = 16 then tIE else if i = 17 then tVE else tLE
def gK {α : Type} (n : Nat) (us ws : List α) : List α := if us.length = 1 ∧ ws.length = n then us ++ ws.reverse else []
structure Lay (P : Program) (w : World) (K : PySem.W.Frag) (mg : Str → Option Value) (base : Heap) (c : Nat → Addr) : Prop where
  inj : ∀ i j, i < 19 → j < 19 → c i = c j → i = j
  glob : ∀ i, i < 19 → mg (nm i) = some (.ref (c i))
  ask : ∀ i, i < 19 → AskC K (c i)
  cls : ∀ i, i < 19 → ∃ cd, PySem.W.clsIn K (c i) = some cd ∧ cd.mro = .ref (c i) :: over c i
  ty : ∀ i, i < 19 → PySem.W.typeIn K (.ref (c i)) = some (.type "type")
  no : ∀ i, i < 19 → ∀ f ∈ fld i, PySem.W.findIn K (.ref (c i)) f = some none
  bare : ∀ i, i = 0 ∨ i = 17 ∨ i = 18 → ∃ B newId initId bmB, ExcBaseFacts B newId initId bmB ∧ PySem.W.excIn K (c i) bmB newId = true
  init : ∀ i, 1 ≤ i → i ≤ 16 → ∃ (fI : Addr) (fd : FuncData) (B newId initId : String) (bmB : List Value), ErrC K (c i) B newId initId bmB ∧ PySem.W.findIn K (.ref (c i)) "__init__" = some (some (.ref fI)) ∧ PySem.W.typeIn K (.ref fI) = some (.type "function") ∧
    FnOk P w K mg base CX0 1 fI fd ("self" :: fld i) (spI (c i) (fld i).length (FF (fld i))) ∧ KBinds K fd ("self" :: fld i) [] (fun us _ => us) (fun vs _ => vs) ∧ KBinds K fd ("self" :: fld i) (fld i).reverse (gK (fld i).length) (gK (fld i).length)
/-- a new error of the class at C with these fields -/
def tNewE (C : Addr) (ns : List Str) (rev : Bool) (ta : TA) : TE := fun σ H Q => ta σ H fun vs H1 => vs.length = ns.length ∧ ∀ a H2, H1 a = none → Ext H1 H2 → IsE C (FF ns (if rev then vs.reverse else vs)) a H2 → Q (.ref a) H2
theorem fld_len (i : Nat) : (fld i).length ≤ 2 := by
  by_cases h : i < 19
  · have : ∀ j < 19, (fld j).length ≤ 2 := by decide
    exact this i h
  · have e : fld i = [] := by
      unfold fld
      rw [List.getD_eq_getElem?_getD, List.getElem?_eq_none (by show 19 ≤ i; omega)]
      rfl
    rw [e]
    decide
section
variable {X : Cx} {c : Nat → Addr} {x : Str} {p pos : Pos} {e : Expr} {es : List Expr} {kws : List Keyword} {ta tk : TA} {ks : List Str}
theorem laid_new {C : Addr} {n : Nat} {F : List V → List (Str × V)} {H2 : Hp} {Q : VK} {us ys : List V} {a : Addr} (e : us = .ref a :: ys) (hl : ys.length = n)
    (q : ∀ a H3, H2 a = none → Ext H2 H3 → IsE C (F ys) a H3 → Q (.ref a) H3) (ha : H2 a = none) : spI C n F us (upd H2 a (exo a C none)) (fun v H3 => v = .non ∧ Q (.ref a) H3) (fun _ _ _ => False) := by
  refine ⟨a, ys, e, hl, upd_same, fun H' L => ?_⟩
  obtain ⟨h1, h2⟩ := L.isE ha
  exact ⟨rfl, q a H' ha h2 h1⟩
theorem pe_new (L : Lay X.prog X.w X.K X.mg X.base c) (i : Nat) (h1 : 1 ≤ i) (h2 : i ≤ 16) (hx : x = nm i) (hr : Room 2 X.A) (hg : Gl X x) (ha : PA X (e :: es) ta)
    (hdb : (x == ("__debug__" : Str)) = false := by decide) (he : starEach (e :: es) X.env = (false, eval e X.env) :: starEach es X.env := by rfl) (hpl : (backTo pos (starEach es X.env)).any (·.1) = false := by rfl) :
    PE X (.Call (.Name x p) (e :: es) [] pos) (tNewE (c i) (fld i) false ta) := by
  obtain ⟨fI, fd, B, newId, initId, bmB, T, iC, tI, F, kb, _⟩ := L.init i h1 h2
  have hm : X.mg x = some (.ref (c i)) := by
    rw [hx]
    exact L.glob i (by omega)
  constructor
  intro pins s σ H Q I h
  apply wpAny_Call_Name_kw
  refine ld_glob I hg hm ?_ hdb
  refine PySem.W.callWith_K (h₀ := X.base) I.ok.mod.kin T.ask.keep (thn (ha.run pos pins s σ H _ I h) ?_) he hpl
  rintro us s1 ⟨vs, H1, I1, r, hl, q⟩
  have fl := fld_len i
  exact ⟨I1.kIn, run_err (ws := []) (zs := []) T iC tI F hr kb pass0 I1 r .nil (by omega) fun a ha => laid_new rfl hl q ha⟩
theorem pe_newK (L : Lay X.prog X.w X.K X.mg X.base c) (i : Nat) (h1 : 1 ≤ i) (h2 : i ≤ 16) (hx : x = nm i) (hr : Room 2 X.A) (hg : Gl X x) (hkw : PK X kws tk)
    (hall : (backToKw pos (keywordEach kws X.env)).all (·.1.isSome) = true := by rfl) (hks : (backToKw pos (keywordEach kws X.env)).filterMap (·.1) = (fld i).reverse := by rfl)
    (hdb : (x == ("__debug__" : Str)) = false := by decide) (hpl : ((backTo pos (starEach [] X.env)).any (·.1) || (backToKw pos (keywordEach kws X.env)).any (·.1.isNone)) = false := by rfl) :
    PE X (.Call (.Name x p) [] kws pos) (tNewE (c i) (fld i) true tk) := by
  obtain ⟨fI, fd, B, newId, initId, bmB, T, iC, tI, F, _, kb⟩ := L.init i h1 h2
  have hm : X.mg x = some (.ref (c i)) := by
    rw [hx]
    exact L.glob i (by omega)
  constructor
  intro pins s σ H Q I h
  apply wpAny_Call_Name_kw
  refine ld_glob I hg hm ?_ hdb
  refine PySem.W.callWith_KW0 (h₀ := X.base) I.ok.mod.kin T.ask.keep hall ?_ hpl
  refine thn (hkw.run pos pins s σ H _ I h) ?_
  rintro ws s2 ⟨zs, H2, I2, rz, hl, q⟩
  refine ⟨I2.kIn, ?_⟩
  rw [hks]
  refine run_err (us := []) (vs := []) T iC tI F hr kb pass0 I2 .nil rz (Nat.zero_le _) fun a ha => laid_new (ys := zs.reverse) ?_ ?_ q ha
  · unfold gK
    rw [if_pos ⟨rfl, hl⟩]
    rfl
  · rw [List.length_reverse]
    exact hl
theorem pe_newB (L : Lay X.prog X.w X.K X.mg X.base c) (i : Nat) (hi : i = 0 ∨ i = 17 ∨ i = 18) (hx : x = nm i) (hg : Gl X x)
    (hall : (backToKw pos (keywordEach [] X.env)).all (·.1.isSome) = true := by rfl) (hks : (backToKw pos (keywordEach [] X.env)).filterMap (·.1) = [] := by rfl)
    (hdb : (x == ("__debug__" : Str)) = false := by decide) (hpl : ((backTo pos (starEach [] X.env)).any (·.1) || (backToKw pos (keywordEach [] X.env)).any (·.1.isNone)) = false := by rfl) :
    PE X (.Call (.Name x p) [] [] pos) (tNewE (c i) (fld i) false tNil) := by
  obtain ⟨B, newId, initId, bmB, F, q0⟩ := L.bare i hi
  have lt : i < 19 := by omega
  have hm : X.mg x = some (.ref (c i)) := by
    rw [hx]
    exact L.glob i lt
  constructor
  intro pins s σ H Q I h
  refine (pe_mk0 (X := X) F q0 (L.ask i lt).keep hg hm hall hks hdb hpl).run pins s σ H Q I ?_
  intro a ha
  have em : fld i = [] := by rcases hi with rfl | rfl | rfl <;> rfl
  rw [em] at h
  obtain ⟨_, q⟩ := (show ([] : List V).length = ([] : List Str).length ∧ _ from h)
  exact q a _ ha (ext_new ha) ⟨none, upd_same, rfl⟩
/-- which class an error is of -/
theorem kit_own {P : Program} {w : World} {K : PySem.W.Frag} {mg : Str → Option Value} {base : Heap} (L : Lay P w K mg base c) {i j : Nat} (hi : i < 19) (hj : j < 17) : PySem.W.kitOne K (.ref (c i)) (.ref (c j)) = some (decide (i = j)) := by
  obtain ⟨cd, h1, h2⟩ := L.cls i hi
  obtain ⟨cj, h3, _⟩ := L.cls j (by omega)
  unfold PySem.W.kitOne
  by_cases e : i = j
  · subst e
    rw [if_pos (by simp), decide_eq_true rfl]
  · have ne : c i ≠ c j := fun z => e (L.inj i j hi (by omega) z)
    have n1 : c 17 ≠ c j := fun z => by
      have := L.inj 17 j (by omega) (by omega) z
      omega
    have n2 : c 18 ≠ c j := fun z => by
      have := L.inj 18 j (by omega) (by omega) z
      omega
    rw [if_neg (by simp [ne]), decide_eq_false e]
    have ov : (over c i).contains (.ref (c j)) = false := by
      unfold over
      repeat' split
      all_goals simp [tVE, tLE, tOE, tIE, Ne.symm n1, Ne.symm n2]
    show (if ((PySem.W.clsIn K (c j)).isSome && PySem.W.typeIn K (.ref (c j)) == some (.type "type")) = true then PySem.W.subIn K (.ref (c i)) (.ref (c j)) else none) = _
    rw [h3, L.ty j (by omega), if_pos (by simp)]
    show (PySem.W.clsIn K (c i)).bind _ = _
    rw [h1, Option.bind_some, h2]
    show some ((Value.ref (c i) :: over c i).contains (.ref (c j))) = _
    rw [List.contains_cons, ov]
    simp [Ne.symm ne]
/-- the base classes of this program -/
theorem kit_base {P : Program} {w : World} {K : PySem.W.Frag} {mg : Str → Option Value} {base : Heap} (L : Lay P w K mg base c) {i j : Nat} (hi : i < 17) (hj : j = 17 ∨ j = 18) : PySem.W.kitOne K (.ref (c i)) (.ref (c j)) = some ((over c i).contains (.ref (c j))) := by
  obtain ⟨cd, h1, h2⟩ := L.cls i (by omega)
  have lj : j < 19 := by omega
  obtain ⟨cj, h3, _⟩ := L.cls j lj
  have ne : c i ≠ c j := fun z => by
    have := L.inj i j (by omega) lj z
    omega
  unfold PySem.W.kitOne
  rw [if_neg (by simp [ne])]
  show (if ((PySem.W.clsIn K (c j)).isSome && PySem.W.typeIn K (.ref (c j)) == some (.type "type")) = true then PySem.W.subIn K (.ref (c i)) (.ref (c j)) else none) = _
  rw [h3, L.ty j lj, if_pos (by simp)]
  show (PySem.W.clsIn K (c i)).bind _ = _
  rw [h1, Option.bind_some, h2]
  show some ((Value.ref (c i) :: over c i).contains (.ref (c j))) = _
  rw [List.contains_cons]
  simp [Ne.symm ne]
theorem kit_type {P : Program} {w : World} {K : PySem.W.Frag} {mg : Str → Option Value} {base : Heap} (L : Lay P w K mg base c) {i : Nat} {T : String} (hi : i < 19) (hT : PySem.W.kitMeta T = true) : PySem.W.kitOne K (.ref (c i)) (.type T) = some ((over c i).contains (.type T)) := by
  obtain ⟨cd, h1, h2⟩ := L.cls i hi
  unfold PySem.W.kitOne
  rw [if_neg (by simp)]
  show (if PySem.W.kitMeta T = true then PySem.W.subIn K (.ref (c i)) (.type T) else none) = _
  rw [if_pos hT]
  show (PySem.W.clsIn K (c i)).bind _ = _
  rw [h1, Option.bind_some, h2]
  show some ((Value.ref (c i) :: over c i).contains (.type T)) = _
  rw [List.contains_cons]
  rfl
end
end EvX

/-! steps -/
namespace EvX
open PySem PySem.Spec PySem.Calls PyProof.Rows L2 EvG
section
variable {σ : L2.St} {H : Hp} {Q : VK} {K : PySem.W.Frag} {te to : TE} {ta : TA} {C : Addr} {ns : List Str} {rev : Bool} {D : Ends} {c : Nat → Addr}
theorem g_newE (h : ta σ H fun vs H1 => vs.length = ns.length ∧ ∀ a H2, H1 a = none → Same H1 H2 → IsE C (FF ns (if rev then vs.reverse else vs)) a H2 → Q (.ref a) H2) : tNewE C ns rev ta σ H Q := h
theorem g_lstX (h : ta σ H fun xs H1 => xs.length ≤ sizeLine ∧ ∀ p, H1 p = none → p ≠ sysModules → Q (.ref p) (upd H1 p (.lst xs))) : tLstX ta σ H Q := h
theorem g_fld {f : Str} (h : te σ H fun x H1 => ∃ (a C : Addr) (fs : List (Str × V)) (v : V), x = .ref a ∧ AskC K C ∧ PySem.W.findIn K (.ref C) f = some none ∧ IsE C fs a H1 ∧ fs.lookup f = some v ∧ Q v H1) : tFld K f te σ H Q := h
theorem g_put {f : Str} (h : te σ H fun y H1 => to σ H1 fun x H2 => ∃ a C : Addr, x = .ref a ∧ (∃ B n i bm, ErrC K C B n i bm) ∧ PySem.W.takerIn K C f = some none ∧
  ((H2 a = some (exo a C none) ∧ ∀ H', LaidE H2 a C [(f, y)] H' → D.nx σ H') ∨ ∃ (H0 : Hp) (fs : List (Str × V)), LaidE H0 a C fs H2 ∧ fs.length ≤ 900 ∧ ∀ H', LaidE H0 a C ((f, y) :: fs) H' → D.nx σ H')) : tPut K f to te D σ H := h
theorem g_ls (h : ta σ H fun vs H1 => ∃ l xs, vs = [.ref l] ∧ SqL K H1 l xs ∧ ∀ (p : Addr) (ts : List Addr) (H' : Hp), Same H1 H' → H' p = some (.lst (ts.map V.ref)) → ts.length = xs.length → (∀ (j : Nat) (t : Addr), ts[j]? = some t → H' t = some (.tup [.int (j : Nat), xs.getD j .non])) → Q (.ref p) H') : tLsEnum K ta σ H Q := h
theorem g_askE {P : Program} {w : World} {mg : Str → Option Value} {base : Heap} {a : Addr} {fs : List (Str × V)} {i j : Nat} (L : Lay P w K mg base c) (hi : i < 19) (hj : j < 17) (x : IsE (c i) fs a H) (q : Q (.bl (decide (i = j))) H) : rAskE K [.ref a, .ref (c j)] H Q :=
  ⟨a, c i, fs, .ref (c j), .ref (c j), _, rfl, fun u r => r, L.ask i hi, x, kit_own L hi hj, q⟩
theorem over17 {P : Program} {w : World} {mg : Str → Option Value} {base : Heap} (L : Lay P w K mg base c) {i : Nat} (hi : i < 17) : (over c i).contains (.ref (c 17)) = decide (i < 13) := by
  have n : c 18 ≠ c 17 := fun z => by
    have := L.inj 18 17 (by omega) (by omega) z
    omega
  by_cases h : i < 13
  · rw [decide_eq_true h]
    unfold over
    rw [if_pos h]
    simp
  · rw [decide_eq_false h]
    unfold over
    rw [if_neg h]
    repeat' split
    all_goals simp [tVE, tLE, tOE, tIE, Ne.symm n, n]
theorem over18 {P : Program} {w : World} {mg : Str → Option Value} {base : Heap} (L : Lay P w K mg base c) {i : Nat} (hi : i < 17) : (over c i).contains (.ref (c 18)) = decide (i = 13 ∨ i = 14) := by
  have n : c 17 ≠ c 18 := fun z => by
    have := L.inj 17 18 (by omega) (by omega) z
    omega
  by_cases h : i = 13 ∨ i = 14
  · rw [decide_eq_true h]
    unfold over
    rw [if_neg (by omega), if_pos (by omega)]
    simp
  · rw [decide_eq_false h]
    unfold over
    repeat' split
    all_goals first
      | (exfalso; omega)
      | simp [tVE, tLE, tOE, tIE, Ne.symm n, n]
theorem g_askN {P : Program} {w : World} {mg : Str → Option Value} {base : Heap} {a : Addr} {fs : List (Str × V)} {i : Nat} (L : Lay P w K mg base c) (hi : i < 17) (x : IsE (c i) fs a H) (q : Q (.bl (decide (i < 13))) H) : rAskE K [.ref a, .ref (c 17)] H Q :=
  ⟨a, c i, fs, .ref (c 17), .ref (c 17), _, rfl, fun u r => r, L.ask i (by omega), x, by rw [← over17 L hi]; exact kit_base L hi (.inl rfl), q⟩
theorem g_askM {P : Program} {w : World} {mg : Str → Option Value} {base : Heap} {a : Addr} {fs : List (Str × V)} {i : Nat} (L : Lay P w K mg base c) (hi : i < 17) (x : IsE (c i) fs a H) (q : Q (.bl (decide (i = 13 ∨ i = 14))) H) : rAskE K [.ref a, .ref (c 18)] H Q :=
  ⟨a, c i, fs, .ref (c 18), .ref (c 18), _, rfl, fun u r => r, L.ask i (by omega), x, by rw [← over18 L hi]; exact kit_base L hi (.inr rfl), q⟩
theorem g_askT {P : Program} {w : World} {mg : Str → Option Value} {base : Heap} {a : Addr} {fs : List (Str × V)} {i : Nat} {T : String} (L : Lay P w K mg base c) (hi : i < 19) (hT : PySem.W.kitMeta T = true) (x : IsE (c i) fs a H) (q : Q (.bl ((over c i).contains (.type T))) H) : rAskE K [.ref a, .ty T] H Q :=
  ⟨a, c i, fs, .ty T, .type T, _, rfl, fun u r => r, L.ask i hi, x, kit_type L hi hT, q⟩
theorem g_inT {x : V} {p : Addr} {xs : List V} (h : H p = some (.tup xs)) (fx : flatV x = true) (fs : xs.all flatV = true) (q : Q (.bl (inV x xs)) H) : rIn K false x (.ref p) H Q := ⟨p, xs, rfl, .inr (SqT.of h), fx, fs, q⟩
theorem g_repX {l : Addr} {k : Int} {v : V} (h : H l = some (.lst [v])) (k0 : 0 ≤ k) (k1 : k ≤ 1) (q : ∀ p, H p = none → p ≠ sysModules → Q (.ref p) (upd H p (.lst (List.replicate k.toNat v)))) : rRepX (.ref l) (.int k) H Q := ⟨l, k, v, rfl, rfl, h, k0, k1, q⟩
theorem g_reprX {a : Addr} {d : PyData} (hd : Dx H (.ref a) d) (sh : d.showable = true) (dep : d.depth ≤ 40) (sz : d.shown.length ≤ sizeLine) (q : Q (.str d.shown) H) : rReprX [.ref a] H Q := ⟨a, d, rfl, hd, sh, dep, sz, q⟩
end
theorem g_catW {H : Hp} {Q : VK} {l b : Addr} {xs zs ws : List V} (h : H l = some (.lst xs)) (h2 : H b = some (.lst zs)) (e : xs ++ zs = ws) (z : ws.length ≤ sizeLine) (q : ∀ p, H p = none → Q (.ref p) (upd H p (.lst ws))) : rCat (.ref l) (.ref b) H Q :=
  ⟨l, b, xs, zs, rfl, rfl, h, h2, by rw [← List.length_append, e]; exact z, by rw [e]; exact q⟩
theorem g_nameR {i : Nat} {v : V} {σ σ' : L2.St} {H : Hp} {QS : L2.St → Hp → Prop} (h : σ.set i (some v) = σ') (q : QS σ' H) : gName i v σ H QS := by
  subst h
  exact q
theorem same_trans {H H1 H2 : Hp} (a : Same H H1) (b : Same H1 H2) : Same H H2 := fun x o h => b x o (a x o h)
theorem same_upd {H H' : Hp} {p : Addr} {o : HO} (s : Same H H') (n : H' p = none) : Same H (upd H' p o) := fun b u e => ext_new n b u (s b u e)
end EvX

namespace K1
open PySem PySem.Spec PyProof.Rows L2 EvG EvX
def top (i : Nat) : Stmt := PySem.Challenge.pw_evenends_k01_errors_and_their_fields.main.body.getD i (.Pass ⟨0, 0, 0, 0⟩)
abbrev s_law_pen : Stmt := (top 21)
abbrev N_law_pen : List Str := ["_law_script"]
theorem sc_law_pen : FnScope N_law_pen ["_law_script"] (defScope s_law_pen) := ⟨rfl, rfl, rfl, by decide +kernel, rfl, by decide +kernel, by decide +kernel⟩
abbrev s_law_draw : Stmt := (top 22)
abbrev N_law_draw : List Str := ["_law_pen_here", "_law_many", "_law_digit", "_law_at", "_law_cell", "_law_great", "_law_mixed"]
theorem sc_law_draw : FnScope N_law_draw ["_law_pen_here", "_law_many"] (defScope s_law_draw) := ⟨rfl, rfl, rfl, by decide +kernel, rfl, by decide +kernel, by decide +kernel⟩
abbrev s_law_pick : Stmt := (top 23)
abbrev N_law_pick : List Str := ["_law_pen_here", "_law_some"]
theorem sc_law_pick : FnScope N_law_pick ["_law_pen_here", "_law_some"] (defScope s_law_pick) := ⟨rfl, rfl, rfl, by decide +kernel, rfl, by decide +kernel, by decide +kernel⟩
abbrev s_law_thing : Stmt := (top 24)
abbrev N_law_thing : List Str := ["_law_pen_here", "_law_some"]
theorem sc_law_thing : FnScope N_law_thing ["_law_pen_here"] (defScope s_law_thing) := ⟨rfl, rfl, rfl, by decide +kernel, rfl, by decide +kernel, by decide +kernel⟩
abbrev s_law_made : Stmt := (top 25)
abbrev N_law_made : List Str := ["_law_one", "_law_two", "_law_found"]
theorem sc_law_made : FnScope N_law_made ["_law_one", "_law_two"] (defScope s_law_made) := ⟨rfl, rfl, rfl, by decide +kernel, rfl, by decide +kernel, by decide +kernel⟩
abbrev s_law_named : Stmt := (top 26)
abbrev N_law_named : List Str := ["_law_one", "_law_two", "_law_found"]
theorem sc_law_named : FnScope N_law_named ["_law_one", "_law_two"] (defScope s_law_named) := ⟨rfl, rfl, rfl, by decide +kernel, rfl, by decide +kernel, by decide +kernel⟩
abbrev s_law_fields : Stmt := (top 27)
abbrev N_law_fields : List Str := ["_law_k", "_law_caught"]
theorem sc_law_fields : FnScope N_law_fields ["_law_k", "_law_caught"] (defScope s_law_fields) := ⟨rfl, rfl, rfl, by decide +kernel, rfl, by decide +kernel, by decide +kernel⟩
abbrev s_law_own : Stmt := (top 28)
abbrev N_law_own : List Str := ["_law_caught", "_law_flags", "_law_k"]
theorem sc_law_own : FnScope N_law_own ["_law_caught"] (defScope s_law_own) := ⟨rfl, rfl, rfl, by decide +kernel, rfl, by decide +kernel, by decide +kernel⟩
abbrev s_law_is_based : Stmt := (top 29)
abbrev N_law_is_based : List Str := ["_law_k", "_law_caught"]
theorem sc_law_is_based : FnScope N_law_is_based ["_law_k", "_law_caught"] (defScope s_law_is_based) := ⟨rfl, rfl, rfl, by decide +kernel, rfl, by decide +kernel, by decide +kernel⟩
abbrev s_law : Stmt := (top 30)
abbrev N_law : List Str := ["_law_script", "_law_pen_here", "_law_turn", "_law_one", "_law_two", "_law_k", "_law_caught", "_law_due", "_law_plain", "_law_gone"]
theorem sc_law : FnScope N_law ["_law_script"] (defScope s_law) := ⟨rfl, rfl, rfl, by decide +kernel, rfl, by decide +kernel, by decide +kernel⟩
abbrev s_InvalidBook___init__ : Stmt := (inClass (top 4) 0)
abbrev N_InvalidBook___init__ : List Str := ["self", "reason"]
theorem sc_InvalidBook___init__ : FnScope N_InvalidBook___init__ ["self", "reason"] (defScope s_InvalidBook___init__) := ⟨rfl, rfl, rfl, by decide +kernel, rfl, by decide +kernel, by decide +kernel⟩
abbrev s_InvalidPart___init__ : Stmt := (inClass (top 5) 0)
abbrev N_InvalidPart___init__ : List Str := ["self", "reason"]
theorem sc_InvalidPart___init__ : FnScope N_InvalidPart___init__ ["self", "reason"] (defScope s_InvalidPart___init__) := ⟨rfl, rfl, rfl, by decide +kernel, rfl, by decide +kernel, by decide +kernel⟩
abbrev s_InvalidNet___init__ : Stmt := (inClass (top 6) 0)
abbrev N_InvalidNet___init__ : List Str := ["self", "reason", "name"]
theorem sc_InvalidNet___init__ : FnScope N_InvalidNet___init__ ["self", "reason", "name"] (defScope s_InvalidNet___init__) := ⟨rfl, rfl, rfl, by decide +kernel, rfl, by decide +kernel, by decide +kernel⟩
abbrev s_InvalidCourse___init__ : Stmt := (inClass (top 7) 0)
abbrev N_InvalidCourse___init__ : List Str := ["self", "reason"]
theorem sc_InvalidCourse___init__ : FnScope N_InvalidCourse___init__ ["self", "reason"] (defScope s_InvalidCourse___init__) := ⟨rfl, rfl, rfl, by decide +kernel, rfl, by decide +kernel, by decide +kernel⟩
abbrev s_InvalidWeighting___init__ : Stmt := (inClass (top 8) 0)
abbrev N_InvalidWeighting___init__ : List Str := ["self", "reason"]
theorem sc_InvalidWeighting___init__ : FnScope N_InvalidWeighting___init__ ["self", "reason"] (defScope s_InvalidWeighting___init__) := ⟨rfl, rfl, rfl, by decide +kernel, rfl, by decide +kernel, by decide +kernel⟩
abbrev s_InvalidDeed___init__ : Stmt := (inClass (top 9) 0)
abbrev N_InvalidDeed___init__ : List Str := ["self", "reason"]
theorem sc_InvalidDeed___init__ : FnScope N_InvalidDeed___init__ ["self", "reason"] (defScope s_InvalidDeed___init__) := ⟨rfl, rfl, rfl, by decide +kernel, rfl, by decide +kernel, by decide +kernel⟩
abbrev s_InvalidItem___init__ : Stmt := (inClass (top 10) 0)
abbrev N_InvalidItem___init__ : List Str := ["self", "index"]
theorem sc_InvalidItem___init__ : FnScope N_InvalidItem___init__ ["self", "index"] (defScope s_InvalidItem___init__) := ⟨rfl, rfl, rfl, by decide +kernel, rfl, by decide +kernel, by decide +kernel⟩
abbrev s_InvalidCosts___init__ : Stmt := (inClass (top 11) 0)
abbrev N_InvalidCosts___init__ : List Str := ["self", "name"]
theorem sc_InvalidCosts___init__ : FnScope N_InvalidCosts___init__ ["self", "name"] (defScope s_InvalidCosts___init__) := ⟨rfl, rfl, rfl, by decide +kernel, rfl, by decide +kernel, by decide +kernel⟩
abbrev s_InvalidCount___init__ : Stmt := (inClass (top 12) 0)
abbrev N_InvalidCount___init__ : List Str := ["self", "name"]
theorem sc_InvalidCount___init__ : FnScope N_InvalidCount___init__ ["self", "name"] (defScope s_InvalidCount___init__) := ⟨rfl, rfl, rfl, by decide +kernel, rfl, by decide +kernel, by decide +kernel⟩
abbrev s_NotComparable___init__ : Stmt := (inClass (top 13) 0)
abbrev N_NotComparable___init__ : List Str := ["self", "reason"]
theorem sc_NotComparable___init__ : FnScope N_NotComparable___init__ ["self", "reason"] (defScope s_NotComparable___init__) := ⟨rfl, rfl, rfl, by decide +kernel, rfl, by decide +kernel, by decide +kernel⟩
abbrev s_InvalidText___init__ : Stmt := (inClass (top 14) 0)
abbrev N_InvalidText___init__ : List Str := ["self", "line", "word"]
theorem sc_InvalidText___init__ : FnScope N_InvalidText___init__ ["self", "line", "word"] (defScope s_InvalidText___init__) := ⟨rfl, rfl, rfl, by decide +kernel, rfl, by decide +kernel, by decide +kernel⟩
abbrev s_UnknownCommand___init__ : Stmt := (inClass (top 15) 0)
abbrev N_UnknownCommand___init__ : List Str := ["self", "word"]
theorem sc_UnknownCommand___init__ : FnScope N_UnknownCommand___init__ ["self", "word"] (defScope s_UnknownCommand___init__) := ⟨rfl, rfl, rfl, by decide +kernel, rfl, by decide +kernel, by decide +kernel⟩
abbrev s_UnknownName___init__ : Stmt := (inClass (top 16) 0)
abbrev N_UnknownName___init__ : List Str := ["self", "name"]
theorem sc_UnknownName___init__ : FnScope N_UnknownName___init__ ["self", "name"] (defScope s_UnknownName___init__) := ⟨rfl, rfl, rfl, by decide +kernel, rfl, by decide +kernel, by decide +kernel⟩
abbrev s_NoItem___init__ : Stmt := (inClass (top 17) 0)
abbrev N_NoItem___init__ : List Str := ["self", "number"]
theorem sc_NoItem___init__ : FnScope N_NoItem___init__ ["self", "number"] (defScope s_NoItem___init__) := ⟨rfl, rfl, rfl, by decide +kernel, rfl, by decide +kernel, by decide +kernel⟩
abbrev s_TooMany___init__ : Stmt := (inClass (top 18) 0)
abbrev N_TooMany___init__ : List Str := ["self", "limit"]
theorem sc_TooMany___init__ : FnScope N_TooMany___init__ ["self", "limit"] (defScope s_TooMany___init__) := ⟨rfl, rfl, rfl, by decide +kernel, rfl, by decide +kernel, by decide +kernel⟩
abbrev s_NothingToUndo___init__ : Stmt := (inClass (top 19) 0)
abbrev N_NothingToUndo___init__ : List Str := ["self", "count"]
theorem sc_NothingToUndo___init__ : FnScope N_NothingToUndo___init__ ["self", "count"] (defScope s_NothingToUndo___init__) := ⟨rfl, rfl, rfl, by decide +kernel, rfl, by decide +kernel, by decide +kernel⟩

local macro_rules
  | `(tactic| walk_at "hlook") => `(tactic| first
    | assumption
    | exact upd_same
    | (refine' look_past ?h1 ?h2; (case h1 => walk_at "hne"); (case h2 => walk_at "hlook")))
local macro_rules
  | `(tactic| walk_at "hne") => `(tactic| first
    | assumption
    | exact Ne.symm (by assumption)
    | (refine' ne_of_none ?h1 ?h2; (case h2 => assumption); (case h1 => walk_at "hlook")))
local macro_rules
  | `(tactic| walk_at "hside") => `(tactic| first
    | exact Or.inl ⟨by decide, by decide⟩
    | exact Or.inr ⟨by decide, by decide⟩
    | exact Or.inl ⟨by omega, by omega⟩
    | exact Or.inr ⟨by omega, by omega⟩
    | (show (0 : Int) < _; first | decide | omega)
    | (show _ ≠ (0 : Int); first | decide | omega)
    | exact ⟨by decide, by decide⟩
    | exact ⟨by omega, by omega⟩
    | exact ⟨by decide, by decide, by decide⟩
    | exact ⟨by decide, by decide, by omega⟩
    | (refine pow3_ok ?_ ?_ ?_ ?_ ?_ ?_ ?_ ?_ ?_ ?_ <;> omega))
local macro_rules
  | `(tactic| walk_at "hs") => `(tactic| first
    | ((with_reducible show Ends.rt _ _ _); (with_reducible refine g_rt ?_))
    | ((with_reducible show Ends.nx _ _ _); (with_reducible refine g_nx ?_))
    | ((with_reducible refine' g_var ?h1 ?h2); (case h1 => rfl))
    | with_reducible refine g_c ?_
    | with_reducible refine g_op ?_
    | with_reducible refine g_cons ?_
    | with_reducible refine g_nil ?_
    | with_reducible refine g_cb ?_
    | with_reducible refine g_I0 ?_
    | with_reducible refine g_asg ?_
    | ((with_reducible refine' g_nameR ?h1 ?h2); (case h1 => first | (dsimp only [List.set]; exact rfl) | exact rfl))
    | with_reducible refine g_ret ?_
    | with_reducible refine g_retN ?_
    | with_reducible refine g_next ?_
    | with_reducible refine g_ifs ?_
    | with_reducible refine g_test ?_
    | with_reducible refine g_B ?_
    | with_reducible refine g_bl ?_
    | with_reducible refine g_un ?_
    | with_reducible refine g_neg ?_
    | with_reducible refine g_intI ?_
    | with_reducible refine g_intB ?_
    | with_reducible refine g_abs ?_
    | with_reducible refine g_call ?_
    | with_reducible refine g_callK ?_
    | with_reducible refine g_and ?_
    | with_reducible refine g_or ?_
    | with_reducible refine g_not ?_
    | with_reducible refine g_andV ?_
    | with_reducible refine g_orV ?_
    | with_reducible refine g_notV ?_
    | with_reducible refine g_ifx ?_
    | with_reducible refine g_tup ?_
    | with_reducible refine g_lst ?_
    | with_reducible refine g_sl ?_
    | with_reducible refine g_part ?_
    | with_reducible refine g_part1 ?_
    | with_reducible refine g_nopart ?_
    | with_reducible refine g_sub ?_
    | with_reducible refine g_drop ?_
    | with_reducible refine g_yes ?_
    | with_reducible refine g_m0 ?_
    | with_reducible refine g_rng1 ?_
    | with_reducible refine g_tyS ?_
    | with_reducible refine g_dnew ?_
    | with_reducible refine g_disp1 ?_
    | with_reducible refine g_true rfl ?_
    | with_reducible refine g_false rfl ?_
    | with_reducible refine g_for ?_
    | with_reducible refine g_lc ?_
    | with_reducible refine g_iL ?_
    | with_reducible refine g_iT ?_
    | with_reducible refine g_iS ?_
    | with_reducible refine g_atS ?_
    | with_reducible refine g_m1 ?_
    | with_reducible refine g_isStr ?_
    | with_reducible refine g_txtB ?_
    | with_reducible refine g_notInS ?_
    | with_reducible refine g_chain ?_
    | with_reducible refine g_newE ?_
    | with_reducible refine g_lstX ?_
    | with_reducible refine g_fld ?_
    | with_reducible refine g_ls ?_
    | ((with_reducible refine g_new ?_ ?_); focus (exact small_of (by simp)))
    | ((with_reducible refine g_new ?_ ?_); focus (decide))
    | ((with_reducible refine g_I ?_ ?_); focus (walk_at "hside"))
    | ((with_reducible refine g_eq ?_ ?_); focus rfl)
    | ((with_reducible refine g_ne ?_ ?_); focus rfl)
    | ((with_reducible refine' g_ixL (SqL.of ?h1) ?h2 ?h3); (case h1 => walk_at "hlook"); (case h2 => rfl))
    | ((with_reducible refine' g_lenL (SqL.of ?h1) ?h2); (case h1 => walk_at "hlook"))
    | ((with_reducible refine' g_setL ?h1 ?h2 ?h3); (case h1 => walk_at "hlook"); (case h2 => rfl)))
local macro_rules
  | `(tactic| walk_at "hx") => `(tactic| repeat (walk_at "hs"))
local macro_rules
  | `(tactic| walk_at "hline") => `(tactic| ((with_reducible refine g_seq ?_); repeat (walk_at "hs")))
local macro_rules
  | `(tactic| walk_at "hgo") => `(tactic| repeat (first | with_reducible refine g_seq ?_ | walk_at "hs"))
local macro_rules
  | `(tactic| walk_at "hm") => `(tactic| repeat (first | with_reducible refine g_seq ?_ | ((with_reducible refine g_modC ?_ ?_); focus (decide); focus (intro x hx0 hx1)) | walk_at "hs"))
/-- the pen at q: the cells, at most b draws so far -/
structure Pen (H : Hp) (q : Addr) (b : Nat) : Prop where
  ex : ∃ (c : Addr) (ns : List Int) (z left : Int), H q = some (.lst [.ref c, .int z, .int left]) ∧ H c = some (.lst (ns.map V.int)) ∧ 0 ≤ z ∧ z ≤ b ∧ 0 ≤ left ∧ ns.length ≤ 63
/-- all but q stands -/
structure But (q : Addr) (H H' : Hp) : Prop where
  st : ∀ a o, a ≠ q → H a = some o → H' a = some o
  cl : ∀ c x y, H q = some (.lst [.ref c, x, y]) → ∃ x' y', H' q = some (.lst [.ref c, x', y'])
structure TxtD (mg : Str → Option Value) : Prop where
  int : mg "int" = none
  len : mg "len" = none
  abs : mg "abs" = none
def spDraw : Sp := fun vs H Q _ => ∃ (q : Addr) (m : Int) (b : Nat), vs = [.ref q, .int m] ∧ Pen H q b ∧ b ≤ 100000 ∧ 1 ≤ m ∧ m ≤ 1000 ∧ ∀ (d : Int) (H' : Hp), 0 ≤ d → d < m → Pen H' q (b + 1) → But q H H' → Q (.int d) H'
theorem pen_ne {H : Hp} {q c : Addr} {ns : List Int} {z left : Int} (h1 : H q = some (.lst [.ref c, .int z, .int left])) (h2 : H c = some (.lst (ns.map V.int))) : c ≠ q := by
  refine ne_of h2 h1 fun e => ?_
  cases ns with
  | nil => cases e
  | cons a r => cases e
theorem fmod_in {x m : Int} (h : 1 ≤ m) : 0 ≤ x.fmod m ∧ x.fmod m < m := by
  rw [Int.fmod_eq_emod_of_nonneg x (by omega)]
  exact ⟨Int.emod_nonneg x (by omega), Int.emod_lt_of_pos x (by omega)⟩
theorem fdiv_in {x m : Int} (h : 1 ≤ m) (hx : 0 ≤ x) : 0 ≤ x.fdiv m := by
  rw [Int.fdiv_eq_ediv_of_nonneg x (by omega)]
  exact Int.ediv_nonneg hx (by omega)
theorem But.self {q : Addr} {H : Hp} : But q H H := ⟨fun _ _ _ e => e, fun _ x y e => ⟨x, y, e⟩⟩
theorem But.trans {q : Addr} {H H1 H2 : Hp} (a : But q H H1) (b : But q H1 H2) : But q H H2 := by
  refine ⟨fun x o n e => b.st x o n (a.st x o n e), fun c x y e => ?_⟩
  obtain ⟨x', y', e'⟩ := a.cl c x y e
  exact b.cl c x' y' e'
theorem But.of {q : Addr} {H H1 : Hp} (a : Same H H1) : But q H H1 := ⟨fun x o _ e => a x o e, fun c x y e => ⟨x, y, a _ _ e⟩⟩
theorem but_upd {q c : Addr} {H : Hp} {x y x' y' : V} (h : H q = some (.lst [.ref c, x, y])) : But q H (upd H q (.lst [.ref c, x', y'])) := by
  refine ⟨fun a u n e => ?_, fun d z w e => ?_⟩
  · rw [upd_ne n]
    exact e
  · rw [h] at e
    cases e
    exact ⟨x', y', upd_same⟩
theorem But.upd {q c : Addr} {H H' : Hp} {x y x' y' : V} (b : But q H H') (h : H' q = some (.lst [.ref c, x, y])) : But q H (L2.upd H' q (.lst [.ref c, x', y'])) := b.trans (but_upd h)
theorem same_new {p : Addr} {H : Hp} {o : HO} (hp : H p = none) : Same H (L2.upd H p o) := fun a u e => by
  rw [upd_ne (ne_of_none e hp)]
  exact e
theorem But.new {q p : Addr} {H H' : Hp} {o : HO} (h : But q H H') (hp : H' p = none) : But q H (L2.upd H' p o) := h.trans (.of (same_new hp))
theorem But.free {q p : Addr} {H H' : Hp} (h : But q H H') (n : p ≠ q) (hp : H' p = none) : H p = none := by
  cases e : H p with
  | none => rfl
  | some o =>
    rw [h.st p o n e] at hp
    cases hp
theorem at_fmod {ns : List Int} (h : ns ≠ []) (x : Int) : ∃ v, atI (ns.map V.int) (x.fmod ((ns.map V.int).length : Int)) = some (.int v) := by
  have hl : 0 < ns.length := List.length_pos_iff.mpr h
  obtain ⟨h0, h1⟩ := fmod_in (x := x) (m := ((ns.map V.int).length : Int)) (by rw [List.length_map]; omega)
  obtain ⟨j, hj⟩ : ∃ j : Nat, x.fmod ((ns.map V.int).length : Int) = (j : Int) := ⟨(x.fmod ((ns.map V.int).length : Int)).toNat, by omega⟩
  rw [hj]
  rw [hj, List.length_map] at h1
  have hlt : j < ns.length := by omega
  refine ⟨ns[j], ?_⟩
  refine atI_nat ?_
  rw [List.getElem?_map, List.getElem?_eq_getElem hlt]
  rfl
section
variable {P : Program} {w : World} {K : PySem.W.Frag} {mg : Str → Option Value} {base : Heap}
theorem ok_law_draw {f : Addr} {fd : FuncData} (F : Fun K "_law_draw" "_law_draw" s_law_draw f fd) (T : TxtD mg) : FnOk P w K mg base CX0 1 f fd ["_law_pen_here", "_law_many"] spDraw := by
  refine F.ok sc_law_draw (fun vs H Q E h => ?_) (fun cdv A outer s H vs Q E hr h => ?_)
  · obtain ⟨q, m, b, rfl, _⟩ := h
    rfl
  · obtain ⟨q, m, b, rfl, ⟨c, ns, z, left, hq, hc, z0, zb, l0, len⟩, hb, m1, m2, k⟩ := h
    have hu := hu_of hr
    have ncq : c ≠ q := pen_ne hq hc
    have fm := fun x : Int => fmod_in (x := x) m1
    refine ⟨_, (pss_cons (ps_if (pt_cmpR op_gt (pe_ix ix_list (pv 0) pe_int (fun _ _ => rfl)) pe_int (nomark _)) (pss_cons (ps_set (i := 2) sc_law_draw.nd rfl (Or.inl rfl) (pe_op op_modN (pe_callTy call_intI (by rfl) T.int (by decide +kernel) (pa_cons (pe_ix ix_list (pv 0) pe_int (fun _ _ => rfl)) pa_nil)) (pv 1)))
      (pss_cons (ps_asg (pe_op op_fdivN (pe_callTy call_intI (by rfl) T.int (by decide +kernel) (pa_cons (pe_ix ix_list (pv 0) pe_int (fun _ _ => rfl)) pa_nil)) (pv 1)) (pg_sub (pv 0) pe_int set_list))
      (pss_one (ps_ret (pv 2))))) pss_nil)
      (pss_cons (ps_set (i := 3) sc_law_draw.nd rfl (Or.inl rfl) (pe_ix ix_list (pv 0) pe_int (fun _ _ => rfl)))
      (pss_cons (ps_asg (pe_op op_add (pv 3) pe_int) (pg_sub (pv 0) pe_int set_list))
      (pss_cons (ps_set (i := 4) sc_law_draw.nd rfl (Or.inl rfl) (pe_op op_add (pe_op op_mul pe_int (pv 3)) pe_int))
      (pss_cons (ps_if (pt_cmpR (op_neD (hr.units)) (pe_ix ix_list (pv 0) pe_int (fun _ _ => rfl)) (pe_lst pa_nil) (nomark _)) (pss_one (ps_set (i := 4) sc_law_draw.nd rfl (Or.inl rfl) (pe_ix ix_list (pe_ix ix_list (pv 0) pe_int (fun _ _ => rfl)) (pe_op op_modN (pe_callTy call_intI (by rfl) T.int (by decide +kernel) (pa_cons (pv 3) pa_nil)) (pe_callB call_lenL (by rfl) T.len (by decide +kernel) (pa_cons (pe_ix ix_list (pv 0) pe_int (fun _ _ => rfl)) pa_nil))) (fun _ _ => rfl)))) pss_nil)
      (pss_cons (ps_if (PW.pt (pw_and (pt_cmpR op_lt (pv 3) (pe_callB call_lenL (by rfl) T.len (by decide +kernel) (pa_cons (pe_ix ix_list (pv 0) pe_int (fun _ _ => rfl)) pa_nil)) (nomark _)) (pw_and1 (pt_cmpR op_ge (pe_callB call_absI (by rfl) T.abs (by decide +kernel) (pa_cons (pv 4) pa_nil)) (pe_op op_pow pe_int pe_int) (nomark _))))) (pss_cons (ps_set (i := 5) sc_law_draw.nd rfl (Or.inl rfl) (pe_op op_add (pe_op op_mul pe_int (pe_op op_sub (pe_callB call_absI (by rfl) T.abs (by decide +kernel) (pa_cons (pv 4) pa_nil)) (pe_op op_pow pe_int pe_int))) (pe_callTy call_intB (by rfl) T.int (by decide +kernel) (pa_cons (pe_cmpR op_lt (pv 4) pe_int (nomark _)) pa_nil))))
      (pss_cons (ps_asg (pe_op op_fdivN (pv 5) (pv 1)) (pg_sub (pv 0) pe_int set_list))
      (pss_one (ps_ret (pe_op op_modN (pe_callTy call_intI (by rfl) T.int (by decide +kernel) (pa_cons (pv 5) pa_nil)) (pv 1)))))) pss_nil)
      (pss_cons (ps_set (i := 6) sc_law_draw.nd rfl (Or.inl rfl) (pe_op op_mod (pe_callTy call_intI (by rfl) T.int (by decide +kernel) (pa_cons (pe_op op_pow (pe_op op_add (pe_op op_add (pe_op op_mod (pe_callTy call_intI (by rfl) T.int (by decide +kernel) (pa_cons (pv 4) pa_nil)) pe_int) (pe_op op_mul pe_int (pv 3))) pe_int) pe_int) pa_nil)) pe_int))
      (pss_cons (ps_set (i := 6) sc_law_draw.nd rfl (Or.inl rfl) (pe_op op_mod (pe_callTy call_intI (by rfl) T.int (by decide +kernel) (pa_cons (pe_op op_pow (pe_op op_add (pe_op op_add (pe_op op_mul (pv 6) (pe_op op_add (pe_op op_mul pe_int (pv 3)) pe_int)) (pe_op op_mul (pe_op op_mul pe_int (pv 3)) (pv 3))) pe_int) pe_int) pa_nil)) pe_int))
      (pss_one (ps_ret (pe_op op_modN (pe_callTy call_intI (by rfl) T.int (by decide +kernel) (pa_cons (pe_op op_fdiv (pv 6) pe_int) pa_nil)) (pv 1)))))))))))), ?_⟩
    dsimp only [cxOf]
    walk_at "hgo"
    refine ite2 (fun c1 => ?_) (fun c1 => ?_)
    · walk_at "hgo"
      refine k _ _ (fm _).1 (fm _).2 ⟨c, ns, z, _, upd_same, look_past ncq hc, z0, by omega, fdiv_in m1 l0, len⟩ (but_upd hq)
    · walk_at "hx"
      walk_at "hline"
      walk_at "hline"
      walk_at "hline"
      refine g_cut (fun σ' H' => ∃ cell, σ' = [some (.ref q), some (.int m), none, some (.int z), some (.int cell), none, none] ∧ H' q = some (.lst [.ref c, .int (z + 1), .int left]) ∧ H' c = some (.lst (ns.map V.int)) ∧ But q H H') ?_ ?_
      · rintro σ' H2 ⟨cell, rfl, hq2, hc2, bt⟩
        clear hq hc
        refine g_cut (fun σ' H' => σ' = [some (.ref q), some (.int m), none, some (.int z), some (.int cell), none, none] ∧ H' = H2) ?_ ?_
        · rintro σ' H' ⟨rfl, rfl⟩
          walk_at "hm"
          refine k _ _ (fm _).1 (fm _).2 ⟨c, ns, z + 1, left, hq2, hc2, by omega, by omega, l0, len⟩ bt
        · intro R hR
          walk_at "hx"
          refine ite2 (fun c2 => ?_) (fun c2 => ?_)
          · walk_at "hx"
            refine ite2 (fun c3 => ?_) (fun c3 => ?_)
            · walk_at "hgo"
              have big := of_decide_eq_true c3
              refine k _ _ (fm _).1 (fm _).2 ⟨c, ns, z + 1, _, upd_same, look_past ncq hc2, by omega, by omega, fdiv_in m1 ?_, len⟩ (bt.upd hq2)
              have p18 : (10 : Int) ^ Int.toNat 18 = 1000000000000000000 := by decide
              split <;> omega
            · walk_at "hx"
              exact hR _ _ ⟨rfl, rfl⟩
          · walk_at "hx"
            exact hR _ _ ⟨rfl, rfl⟩
      · intro R hR
        walk_at "hx"
        intro p hp
        have hq1 := look_past (o := .lst []) (ne_of_none (look_same rfl rfl) hp) (show upd H q (.lst ([V.ref c, V.int z, V.int left].set (Int.toNat 1) (V.int (z + 1)))) q = some (.lst [V.ref c, V.int (z + 1), V.int left]) from upd_same)
        have hc0 : upd H q (.lst ([V.ref c, V.int z, V.int left].set (Int.toNat 1) (V.int (z + 1)))) c = some (.lst (ns.map V.int)) := look_past ncq hc
        have hc1 := look_past (o := .lst []) (ne_of_none hc0 hp) hc0
        have bt : But q H (upd (upd H q (.lst ([V.ref c, V.int z, V.int left].set (Int.toNat 1) (V.int (z + 1))))) p (.lst [])) := (but_upd (x' := V.int (z + 1)) (y' := V.int left) hq).new hp
        refine g_neD (.lst (SqL.of hc1) (dp_ints ns)) (.lst (SqL.of upd_same) .nil) (shapedInts ns) (by decide +kernel) ?_
        rw [eqvInts0]
        generalize upd (upd H q (.lst ([V.ref c, V.int z, V.int left].set (Int.toNat 1) (V.int (z + 1))))) p (.lst []) = H2 at hq1 hc1 bt ⊢
        walk_at "hx"
        by_cases hn : ns = []
        · refine g_false (by simp [hn]) ?_
          walk_at "hx"
          exact hR _ _ ⟨_, rfl, hq1, hc1, bt⟩
        · refine g_true (by simp [hn]) ?_
          obtain ⟨v, hv⟩ := at_fmod hn z
          have hl : 0 < ns.length := List.length_pos_iff.mpr hn
          walk_at "hx"
          refine g_I (by show _ ≠ (0 : Int); rw [List.length_map]; omega) ?_
          refine g_ixL (SqL.of hc1) hv ?_
          walk_at "hx"
          exact hR _ _ ⟨v, rfl, hq1, hc1, bt⟩
end

theorem Pen.at {H : Hp} {q : Addr} {b : Nat} (p : Pen H q b) : ∃ xs, H q = some (.lst xs) := by
  obtain ⟨c, ns, z, left, h, _⟩ := p
  exact ⟨_, h⟩
theorem Pen.ne {H : Hp} {q p : Addr} {b : Nat} (h : Pen H q b) (hp : H p = none) : p ≠ q := by
  obtain ⟨xs, e⟩ := h.at
  exact (ne_of_none e hp).symm
theorem Pen.same {H H' : Hp} {q : Addr} {b : Nat} (h : Pen H q b) (s : Same H H') : Pen H' q b := by
  obtain ⟨c, ns, z, left, h1, h2, r⟩ := h
  exact ⟨c, ns, z, left, s _ _ h1, s _ _ h2, r⟩
theorem Pen.new {H : Hp} {q p : Addr} {b : Nat} {o : HO} (h : Pen H q b) (hp : H p = none) : Pen (upd H p o) q b := h.same fun x u e => by
  rw [upd_ne (ne_of_none e hp)]
  exact e
theorem Pen.more {H : Hp} {q : Addr} {b b' : Nat} (h : Pen H q b) (l : b ≤ b') : Pen H q b' := by
  obtain ⟨c, ns, z, left, h1, h2, z0, zb, r⟩ := h
  exact ⟨c, ns, z, left, h1, h2, z0, by omega, r⟩
/-- the pen at q and what was known of H -/
structure Led (q : Addr) (b : Nat) (H H' : Hp) : Prop where
  pen : Pen H' q b
  but : But q H H'
theorem Led.new {q p : Addr} {b : Nat} {H H' : Hp} {o : HO} (l : Led q b H H') (hp : H' p = none) : Led q b H (upd H' p o) := ⟨l.pen.new hp, l.but.new hp⟩
theorem Led.draw {q : Addr} {b : Nat} {H H1 H2 : Hp} (l : Led q b H H1) (p : Pen H2 q (b + 1)) (t : But q H1 H2) : Led q (b + 1) H H2 := ⟨p, l.but.trans t⟩
/-- what was new ahead of draws may be changed behind them -/
theorem Led.keep {q p : Addr} {b b3 : Nat} {H H3 H5 : Hp} {o : HO} (l : Led q b H H5) (P3 : Pen H3 q b3) (hp : H3 p = none) (t3 : But q H H3) (t5 : But q H3 H5) : Led q b H (upd H5 p o) := by
  have n := P3.ne hp
  have hH := t3.free n hp
  obtain ⟨c, ns, z, left, h1, h2, _⟩ := P3
  have npc : c ≠ p := ne_of_none h2 hp
  obtain ⟨x', y', h5⟩ := t5.cl c _ _ h1
  obtain ⟨⟨c', ns', z', left', g1, g2, r⟩, bt⟩ := l
  rw [h5] at g1
  cases g1
  refine ⟨⟨c, ns', z', left', ?_, ?_, r⟩, ?_, ?_⟩
  · rw [upd_ne n.symm]
    exact h5
  · rw [upd_ne npc]
    exact g2
  · intro a u na e
    rw [upd_ne (ne_of_none e hH)]
    exact bt.st a u na e
  · intro d x y e
    rw [upd_ne n.symm]
    exact bt.cl d x y e
theorem cut_ints (ns : List Int) (lo hi : Option Int) : ∃ ms : List Int, cutV (ns.map V.int) lo hi = ms.map V.int ∧ ms.length ≤ ns.length := by
  unfold cutV
  refine ⟨(ns.drop (HT.sIx (ns.map V.int).length 0 lo)).take (HT.sIx (ns.map V.int).length (ns.map V.int).length hi - HT.sIx (ns.map V.int).length 0 lo), ?_, ?_⟩
  · rw [List.map_take, List.map_drop]
  · rw [List.length_take, List.length_drop]
    omega
structure TxtP (mg : Str → Option Value) : Prop where
  list : mg "list" = none
  len : mg "len" = none
  range : mg "range" = none
structure Has (K : PySem.W.Frag) (mg : Str → Option Value) (fD : Addr) (fdD : FuncData) : Prop where
  g_law_draw : mg "_law_draw" = some (.ref fD)
def spPen (K : PySem.W.Frag) : Sp := fun vs H Q _ => ∃ (a : Addr) (ns : List Int), vs = [.ref a] ∧ SqL K H a (ns.map V.int) ∧ ns.length ≤ 63 ∧ ∀ (q : Addr) (H' : Hp), H q = none → Pen H' q 0 → Same H H' → Q (.ref q) H'
def spPick : Sp := fun vs H Q _ => ∃ (q l : Addr) (b : Nat) (xs : List V), vs = [.ref q, .ref l] ∧ Pen H q b ∧ b ≤ 100000 ∧ l ≠ q ∧ H l = some (.lst xs) ∧ xs ≠ [] ∧ xs.length ≤ 1000 ∧ ∀ (v : V) (H' : Hp), v ∈ xs → Pen H' q (b + 1) → But q H H' → Q v H'
theorem pick_at {xs : List V} {d : Int} (h0 : 0 ≤ d) (h1 : d < (xs.length : Int)) : ∃ v, v ∈ xs ∧ atI xs d = some v := by
  obtain ⟨j, rfl⟩ : ∃ j : Nat, d = (j : Int) := ⟨d.toNat, by omega⟩
  have hj : j < xs.length := by omega
  exact ⟨xs[j], List.getElem_mem hj, atI_nat (List.getElem?_eq_getElem hj)⟩
section
variable {P : Program} {w : World} {K : PySem.W.Frag} {mg : Str → Option Value} {base : Heap}
theorem ok_law_pen {f : Addr} {fd : FuncData} (F : Fun K "_law_pen" "_law_pen" s_law_pen f fd) (T : TxtP mg) : FnOk P w K mg base CX0 1 f fd ["_law_script"] (spPen K) := by
  refine F.ok sc_law_pen (fun vs H Q E h => ?_) (fun cdv A outer s H vs Q E hr h => ?_)
  · obtain ⟨a, ns, rfl, _⟩ := h
    rfl
  · obtain ⟨a, ns, rfl, hS, len, k⟩ := h
    refine ⟨_, (pss_one (ps_ret (pe_lst (pa_cons (pe_callTy call_listL (by rfl) T.list (by decide +kernel) (pa_cons (pe_slice sl_list (pv 0) po_none (po_some pe_int)) pa_nil)) (pa_cons pe_int (pa_cons pe_int pa_nil)))))), ?_⟩
    try dsimp only [cxOf]
    walk_at "hgo"
    refine g_slL hS ?_
    intro p hp
    walk_at "hgo"
    refine g_listL (SqL.of upd_same) ?_
    intro c hc
    walk_at "hgo"
    intro q hq
    obtain ⟨ms, e, l⟩ := cut_ints ns none (some 63)
    have npc : p ≠ c := (gone_past hc).1.symm
    have hq1 := gone_past hq
    have hq2 := gone_past hq1.2
    walk_at "hgo"
    refine k q _ hq2.2 ⟨c, ms, 0, 0, upd_same, ?_, by omega, by omega, by omega, by omega⟩ ?_
    · rw [upd_ne hq1.1.symm, upd_same, e]
    · intro b o eb
      rw [upd_ne (ne_of_none eb hq2.2), upd_ne (ne_of_none eb (gone_past hc).2), upd_ne (ne_of_none eb hp)]
      exact eb
variable {f_law_draw : Addr} {fd_law_draw : FuncData}
theorem ok_law_pick {f : Addr} {fd : FuncData} (F : Fun K "_law_pick" "_law_pick" s_law_pick f fd) (TD : TxtD mg) (T : TxtP mg)
    (F_law_draw : Fun K "_law_draw" "_law_draw" s_law_draw f_law_draw fd_law_draw) (b_law_draw : Binds K fd_law_draw ["_law_pen_here", "_law_many"] []) (g_law_draw : mg "_law_draw" = some (.ref f_law_draw)) :
    FnOk P w K mg base CX0 2 f fd ["_law_pen_here", "_law_some"] spPick := by
  have G_law_draw : FnOk P w K mg base CX0 1 f_law_draw fd_law_draw ["_law_pen_here", "_law_many"] spDraw := ok_law_draw F_law_draw TD
  refine F.ok sc_law_pick (fun vs H Q E h => ?_) (fun cdv A outer s H vs Q E hr h => ?_)
  · obtain ⟨q, l, b, xs, rfl, _⟩ := h
    rfl
  · obtain ⟨q, l, b, xs, rfl, hP, hb, nlq, hl, ne, len, k⟩ := h
    refine ⟨_, (pss_one (ps_ret (pe_ix ix_list (pv 1) (pe_call G_law_draw (hr.mono (by decide)) (by rfl) g_law_draw F_law_draw.kp b_law_draw .nil pass0 (pa_cons (pv 0) (pa_cons (pe_callB call_lenL (by rfl) T.len (by decide +kernel) (pa_cons (pv 1) pa_nil)) pa_nil))) (fun _ _ => rfl)))), ?_⟩
    try dsimp only [cxOf]
    walk_at "hgo"
    have hn : 0 < xs.length := List.length_pos_iff.mpr ne
    refine ⟨q, (xs.length : Int), b, rfl, hP, hb, by omega, by omega, ?_⟩
    intro d H1 d0 d1 P1 t1
    walk_at "hgo"
    obtain ⟨v, hv, ha⟩ := pick_at d0 d1
    refine g_ixL (SqL.of (t1.st l _ nlq hl)) ha ?_
    walk_at "hgo"
    exact k v H1 hv P1 t1
end

section
variable {P : Program} {w : World} {K : PySem.W.Frag} {mg : Str → Option Value} {base : Heap}
theorem ok_InvalidBook___init__ {f C : Addr} {fd : FuncData} (F : Fun K "__init__" "InvalidBook.__init__" s_InvalidBook___init__ f fd) (T : ∃ B n i bm, ErrC K C B n i bm) (t0 : PySem.W.takerIn K C "reason" = some none) :
    FnOk P w K mg base CX0 1 f fd ["self", "reason"] (spI C 1 (FF (fld 1))) := by
  refine F.ok sc_InvalidBook___init__ (fun vs H Q E h => ?_) (fun cdv A outer s H vs Q E hr h => ?_)
  · obtain ⟨a, ys, rfl, hl, _⟩ := h
    show ys.length + 1 = _
    rw [hl]
    rfl
  · obtain ⟨a, ys, rfl, hl, e, k⟩ := h
    match ys, hl with
    | [y], _ =>
      refine ⟨_, (pss_one (ps_put (pv 0) (pv 1))), ?_⟩
      try dsimp only [cxOf]
      refine g_put ?_
      walk_at "hx"
      refine ⟨a, C, rfl, T, t0, .inl ⟨e, fun H' L => ?_⟩⟩
      walk_at "hx"
      exact k H' L
theorem ok_InvalidPart___init__ {f C : Addr} {fd : FuncData} (F : Fun K "__init__" "InvalidPart.__init__" s_InvalidPart___init__ f fd) (T : ∃ B n i bm, ErrC K C B n i bm) (t0 : PySem.W.takerIn K C "reason" = some none) :
    FnOk P w K mg base CX0 1 f fd ["self", "reason"] (spI C 1 (FF (fld 2))) := by
  refine F.ok sc_InvalidPart___init__ (fun vs H Q E h => ?_) (fun cdv A outer s H vs Q E hr h => ?_)
  · obtain ⟨a, ys, rfl, hl, _⟩ := h
    show ys.length + 1 = _
    rw [hl]
    rfl
  · obtain ⟨a, ys, rfl, hl, e, k⟩ := h
    match ys, hl with
    | [y], _ =>
      refine ⟨_, (pss_one (ps_put (pv 0) (pv 1))), ?_⟩
      try dsimp only [cxOf]
      refine g_put ?_
      walk_at "hx"
      refine ⟨a, C, rfl, T, t0, .inl ⟨e, fun H' L => ?_⟩⟩
      walk_at "hx"
      exact k H' L
theorem ok_InvalidNet___init__ {f C : Addr} {fd : FuncData} (F : Fun K "__init__" "InvalidNet.__init__" s_InvalidNet___init__ f fd) (T : ∃ B n i bm, ErrC K C B n i bm) (t0 : PySem.W.takerIn K C "reason" = some none) (t1 : PySem.W.takerIn K C "name" = some none) :
    FnOk P w K mg base CX0 1 f fd ["self", "reason", "name"] (spI C 2 (FF (fld 3))) := by
  refine F.ok sc_InvalidNet___init__ (fun vs H Q E h => ?_) (fun cdv A outer s H vs Q E hr h => ?_)
  · obtain ⟨a, ys, rfl, hl, _⟩ := h
    show ys.length + 1 = _
    rw [hl]
    rfl
  · obtain ⟨a, ys, rfl, hl, e, k⟩ := h
    match ys, hl with
    | [y, z], _ =>
      refine ⟨_, (pss_cons (ps_put (pv 0) (pv 1)) (pss_one (ps_put (pv 0) (pv 2)))), ?_⟩
      try dsimp only [cxOf]
      refine g_seq ?_
      refine g_put ?_
      walk_at "hx"
      refine ⟨a, C, rfl, T, t0, .inl ⟨e, fun H' L => ?_⟩⟩
      walk_at "hx"
      refine g_put ?_
      walk_at "hx"
      refine ⟨a, C, rfl, T, t1, .inr ⟨H, _, L, by simp, fun H2 L2 => ?_⟩⟩
      walk_at "hx"
      exact k H2 L2
theorem ok_InvalidCourse___init__ {f C : Addr} {fd : FuncData} (F : Fun K "__init__" "InvalidCourse.__init__" s_InvalidCourse___init__ f fd) (T : ∃ B n i bm, ErrC K C B n i bm) (t0 : PySem.W.takerIn K C "reason" = some none) :
    FnOk P w K mg base CX0 1 f fd ["self", "reason"] (spI C 1 (FF (fld 4))) := by
  refine F.ok sc_InvalidCourse___init__ (fun vs H Q E h => ?_) (fun cdv A outer s H vs Q E hr h => ?_)
  · obtain ⟨a, ys, rfl, hl, _⟩ := h
    show ys.length + 1 = _
    rw [hl]
    rfl
  · obtain ⟨a, ys, rfl, hl, e, k⟩ := h
    match ys, hl with
    | [y], _ =>
      refine ⟨_, (pss_one (ps_put (pv 0) (pv 1))), ?_⟩
      try dsimp only [cxOf]
      refine g_put ?_
      walk_at "hx"
      refine ⟨a, C, rfl, T, t0, .inl ⟨e, fun H' L => ?_⟩⟩
      walk_at "hx"
      exact k H' L
theorem ok_InvalidWeighting___init__ {f C : Addr} {fd : FuncData} (F : Fun K "__init__" "InvalidWeighting.__init__" s_InvalidWeighting___init__ f fd) (T : ∃ B n i bm, ErrC K C B n i bm) (t0 : PySem.W.takerIn K C "reason" = some none) :
    FnOk P w K mg base CX0 1 f fd ["self", "reason"] (spI C 1 (FF (fld 5))) := by
  refine F.ok sc_InvalidWeighting___init__ (fun vs H Q E h => ?_) (fun cdv A outer s H vs Q E hr h => ?_)
  · obtain ⟨a, ys, rfl, hl, _⟩ := h
    show ys.length + 1 = _
    rw [hl]
    rfl
  · obtain ⟨a, ys, rfl, hl, e, k⟩ := h
    match ys, hl with
    | [y], _ =>
      refine ⟨_, (pss_one (ps_put (pv 0) (pv 1))), ?_⟩
      try dsimp only [cxOf]
      refine g_put ?_
      walk_at "hx"
      refine ⟨a, C, rfl, T, t0, .inl ⟨e, fun H' L => ?_⟩⟩
      walk_at "hx"
      exact k H' L
theorem ok_InvalidDeed___init__ {f C : Addr} {fd : FuncData} (F : Fun K "__init__" "InvalidDeed.__init__" s_InvalidDeed___init__ f fd) (T : ∃ B n i bm, ErrC K C B n i bm) (t0 : PySem.W.takerIn K C "reason" = some none) :
    FnOk P w K mg base CX0 1 f fd ["self", "reason"] (spI C 1 (FF (fld 6))) := by
  refine F.ok sc_InvalidDeed___init__ (fun vs H Q E h => ?_) (fun cdv A outer s H vs Q E hr h => ?_)
  · obtain ⟨a, ys, rfl, hl, _⟩ := h
    show ys.length + 1 = _
    rw [hl]
    rfl
  · obtain ⟨a, ys, rfl, hl, e, k⟩ := h
    match ys, hl with
    | [y], _ =>
      refine ⟨_, (pss_one (ps_put (pv 0) (pv 1))), ?_⟩
      try dsimp only [cxOf]
      refine g_put ?_
      walk_at "hx"
      refine ⟨a, C, rfl, T, t0, .inl ⟨e, fun H' L => ?_⟩⟩
      walk_at "hx"
      exact k H' L
theorem ok_InvalidItem___init__ {f C : Addr} {fd : FuncData} (F : Fun K "__init__" "InvalidItem.__init__" s_InvalidItem___init__ f fd) (T : ∃ B n i bm, ErrC K C B n i bm) (t0 : PySem.W.takerIn K C "index" = some none) :
    FnOk P w K mg base CX0 1 f fd ["self", "index"] (spI C 1 (FF (fld 7))) := by
  refine F.ok sc_InvalidItem___init__ (fun vs H Q E h => ?_) (fun cdv A outer s H vs Q E hr h => ?_)
  · obtain ⟨a, ys, rfl, hl, _⟩ := h
    show ys.length + 1 = _
    rw [hl]
    rfl
  · obtain ⟨a, ys, rfl, hl, e, k⟩ := h
    match ys, hl with
    | [y], _ =>
      refine ⟨_, (pss_one (ps_put (pv 0) (pv 1))), ?_⟩
      try dsimp only [cxOf]
      refine g_put ?_
      walk_at "hx"
      refine ⟨a, C, rfl, T, t0, .inl ⟨e, fun H' L => ?_⟩⟩
      walk_at "hx"
      exact k H' L
theorem ok_InvalidCosts___init__ {f C : Addr} {fd : FuncData} (F : Fun K "__init__" "InvalidCosts.__init__" s_InvalidCosts___init__ f fd) (T : ∃ B n i bm, ErrC K C B n i bm) (t0 : PySem.W.takerIn K C "name" = some none) :
    FnOk P w K mg base CX0 1 f fd ["self", "name"] (spI C 1 (FF (fld 8))) := by
  refine F.ok sc_InvalidCosts___init__ (fun vs H Q E h => ?_) (fun cdv A outer s H vs Q E hr h => ?_)
  · obtain ⟨a, ys, rfl, hl, _⟩ := h
    show ys.length + 1 = _
    rw [hl]
    rfl
  · obtain ⟨a, ys, rfl, hl, e, k⟩ := h
    match ys, hl with
    | [y], _ =>
      refine ⟨_, (pss_one (ps_put (pv 0) (pv 1))), ?_⟩
      try dsimp only [cxOf]
      refine g_put ?_
      walk_at "hx"
      refine ⟨a, C, rfl, T, t0, .inl ⟨e, fun H' L => ?_⟩⟩
      walk_at "hx"
      exact k H' L
theorem ok_InvalidCount___init__ {f C : Addr} {fd : FuncData} (F : Fun K "__init__" "InvalidCount.__init__" s_InvalidCount___init__ f fd) (T : ∃ B n i bm, ErrC K C B n i bm) (t0 : PySem.W.takerIn K C "name" = some none) :
    FnOk P w K mg base CX0 1 f fd ["self", "name"] (spI C 1 (FF (fld 9))) := by
  refine F.ok sc_InvalidCount___init__ (fun vs H Q E h => ?_) (fun cdv A outer s H vs Q E hr h => ?_)
  · obtain ⟨a, ys, rfl, hl, _⟩ := h
    show ys.length + 1 = _
    rw [hl]
    rfl
  · obtain ⟨a, ys, rfl, hl, e, k⟩ := h
    match ys, hl with
    | [y], _ =>
      refine ⟨_, (pss_one (ps_put (pv 0) (pv 1))), ?_⟩
      try dsimp only [cxOf]
      refine g_put ?_
      walk_at "hx"
      refine ⟨a, C, rfl, T, t0, .inl ⟨e, fun H' L => ?_⟩⟩
      walk_at "hx"
      exact k H' L
theorem ok_NotComparable___init__ {f C : Addr} {fd : FuncData} (F : Fun K "__init__" "NotComparable.__init__" s_NotComparable___init__ f fd) (T : ∃ B n i bm, ErrC K C B n i bm) (t0 : PySem.W.takerIn K C "reason" = some none) :
    FnOk P w K mg base CX0 1 f fd ["self", "reason"] (spI C 1 (FF (fld 10))) := by
  refine F.ok sc_NotComparable___init__ (fun vs H Q E h => ?_) (fun cdv A outer s H vs Q E hr h => ?_)
  · obtain ⟨a, ys, rfl, hl, _⟩ := h
    show ys.length + 1 = _
    rw [hl]
    rfl
  · obtain ⟨a, ys, rfl, hl, e, k⟩ := h
    match ys, hl with
    | [y], _ =>
      refine ⟨_, (pss_one (ps_put (pv 0) (pv 1))), ?_⟩
      try dsimp only [cxOf]
      refine g_put ?_
      walk_at "hx"
      refine ⟨a, C, rfl, T, t0, .inl ⟨e, fun H' L => ?_⟩⟩
      walk_at "hx"
      exact k H' L
theorem ok_InvalidText___init__ {f C : Addr} {fd : FuncData} (F : Fun K "__init__" "InvalidText.__init__" s_InvalidText___init__ f fd) (T : ∃ B n i bm, ErrC K C B n i bm) (t0 : PySem.W.takerIn K C "line" = some none) (t1 : PySem.W.takerIn K C "word" = some none) :
    FnOk P w K mg base CX0 1 f fd ["self", "line", "word"] (spI C 2 (FF (fld 11))) := by
  refine F.ok sc_InvalidText___init__ (fun vs H Q E h => ?_) (fun cdv A outer s H vs Q E hr h => ?_)
  · obtain ⟨a, ys, rfl, hl, _⟩ := h
    show ys.length + 1 = _
    rw [hl]
    rfl
  · obtain ⟨a, ys, rfl, hl, e, k⟩ := h
    match ys, hl with
    | [y, z], _ =>
      refine ⟨_, (pss_cons (ps_put (pv 0) (pv 1)) (pss_one (ps_put (pv 0) (pv 2)))), ?_⟩
      try dsimp only [cxOf]
      refine g_seq ?_
      refine g_put ?_
      walk_at "hx"
      refine ⟨a, C, rfl, T, t0, .inl ⟨e, fun H' L => ?_⟩⟩
      walk_at "hx"
      refine g_put ?_
      walk_at "hx"
      refine ⟨a, C, rfl, T, t1, .inr ⟨H, _, L, by simp, fun H2 L2 => ?_⟩⟩
      walk_at "hx"
      exact k H2 L2
theorem ok_UnknownCommand___init__ {f C : Addr} {fd : FuncData} (F : Fun K "__init__" "UnknownCommand.__init__" s_UnknownCommand___init__ f fd) (T : ∃ B n i bm, ErrC K C B n i bm) (t0 : PySem.W.takerIn K C "word" = some none) :
    FnOk P w K mg base CX0 1 f fd ["self", "word"] (spI C 1 (FF (fld 12))) := by
  refine F.ok sc_UnknownCommand___init__ (fun vs H Q E h => ?_) (fun cdv A outer s H vs Q E hr h => ?_)
  · obtain ⟨a, ys, rfl, hl, _⟩ := h
    show ys.length + 1 = _
    rw [hl]
    rfl
  · obtain ⟨a, ys, rfl, hl, e, k⟩ := h
    match ys, hl with
    | [y], _ =>
      refine ⟨_, (pss_one (ps_put (pv 0) (pv 1))), ?_⟩
      try dsimp only [cxOf]
      refine g_put ?_
      walk_at "hx"
      refine ⟨a, C, rfl, T, t0, .inl ⟨e, fun H' L => ?_⟩⟩
      walk_at "hx"
      exact k H' L
theorem ok_UnknownName___init__ {f C : Addr} {fd : FuncData} (F : Fun K "__init__" "UnknownName.__init__" s_UnknownName___init__ f fd) (T : ∃ B n i bm, ErrC K C B n i bm) (t0 : PySem.W.takerIn K C "name" = some none) :
    FnOk P w K mg base CX0 1 f fd ["self", "name"] (spI C 1 (FF (fld 13))) := by
  refine F.ok sc_UnknownName___init__ (fun vs H Q E h => ?_) (fun cdv A outer s H vs Q E hr h => ?_)
  · obtain ⟨a, ys, rfl, hl, _⟩ := h
    show ys.length + 1 = _
    rw [hl]
    rfl
  · obtain ⟨a, ys, rfl, hl, e, k⟩ := h
    match ys, hl with
    | [y], _ =>
      refine ⟨_, (pss_one (ps_put (pv 0) (pv 1))), ?_⟩
      try dsimp only [cxOf]
      refine g_put ?_
      walk_at "hx"
      refine ⟨a, C, rfl, T, t0, .inl ⟨e, fun H' L => ?_⟩⟩
      walk_at "hx"
      exact k H' L
theorem ok_NoItem___init__ {f C : Addr} {fd : FuncData} (F : Fun K "__init__" "NoItem.__init__" s_NoItem___init__ f fd) (T : ∃ B n i bm, ErrC K C B n i bm) (t0 : PySem.W.takerIn K C "number" = some none) :
    FnOk P w K mg base CX0 1 f fd ["self", "number"] (spI C 1 (FF (fld 14))) := by
  refine F.ok sc_NoItem___init__ (fun vs H Q E h => ?_) (fun cdv A outer s H vs Q E hr h => ?_)
  · obtain ⟨a, ys, rfl, hl, _⟩ := h
    show ys.length + 1 = _
    rw [hl]
    rfl
  · obtain ⟨a, ys, rfl, hl, e, k⟩ := h
    match ys, hl with
    | [y], _ =>
      refine ⟨_, (pss_one (ps_put (pv 0) (pv 1))), ?_⟩
      try dsimp only [cxOf]
      refine g_put ?_
      walk_at "hx"
      refine ⟨a, C, rfl, T, t0, .inl ⟨e, fun H' L => ?_⟩⟩
      walk_at "hx"
      exact k H' L
theorem ok_TooMany___init__ {f C : Addr} {fd : FuncData} (F : Fun K "__init__" "TooMany.__init__" s_TooMany___init__ f fd) (T : ∃ B n i bm, ErrC K C B n i bm) (t0 : PySem.W.takerIn K C "limit" = some none) :
    FnOk P w K mg base CX0 1 f fd ["self", "limit"] (spI C 1 (FF (fld 15))) := by
  refine F.ok sc_TooMany___init__ (fun vs H Q E h => ?_) (fun cdv A outer s H vs Q E hr h => ?_)
  · obtain ⟨a, ys, rfl, hl, _⟩ := h
    show ys.length + 1 = _
    rw [hl]
    rfl
  · obtain ⟨a, ys, rfl, hl, e, k⟩ := h
    match ys, hl with
    | [y], _ =>
      refine ⟨_, (pss_one (ps_put (pv 0) (pv 1))), ?_⟩
      try dsimp only [cxOf]
      refine g_put ?_
      walk_at "hx"
      refine ⟨a, C, rfl, T, t0, .inl ⟨e, fun H' L => ?_⟩⟩
      walk_at "hx"
      exact k H' L
theorem ok_NothingToUndo___init__ {f C : Addr} {fd : FuncData} (F : Fun K "__init__" "NothingToUndo.__init__" s_NothingToUndo___init__ f fd) (T : ∃ B n i bm, ErrC K C B n i bm) (t0 : PySem.W.takerIn K C "count" = some none) :
    FnOk P w K mg base CX0 1 f fd ["self", "count"] (spI C 1 (FF (fld 16))) := by
  refine F.ok sc_NothingToUndo___init__ (fun vs H Q E h => ?_) (fun cdv A outer s H vs Q E hr h => ?_)
  · obtain ⟨a, ys, rfl, hl, _⟩ := h
    show ys.length + 1 = _
    rw [hl]
    rfl
  · obtain ⟨a, ys, rfl, hl, e, k⟩ := h
    match ys, hl with
    | [y], _ =>
      refine ⟨_, (pss_one (ps_put (pv 0) (pv 1))), ?_⟩
      try dsimp only [cxOf]
      refine g_put ?_
      walk_at "hx"
      refine ⟨a, C, rfl, T, t0, .inl ⟨e, fun H' L => ?_⟩⟩
      walk_at "hx"
      exact k H' L
end

structure TxtM (mg : Str → Option Value) : Prop where
  isinstance : mg "isinstance" = none
/-- the fields of the errors of the class with a number -/
def vals (i : Nat) (x y : V) : List V := if i = 0 then [] else if i = 3 ∨ i = 11 then [x, y] else [x]
def spMade (c : Nat → Addr) : Sp := fun vs H Q _ => ∃ x y, vs = [x, y] ∧ ∀ (p : Addr) (as : List Addr) (H' : Hp), Same H H' → H' p = some (.lst (as.map V.ref)) → as.length = 17 → (∀ i, i < 17 → ∃ a, as[i]? = some a ∧ IsE (c i) (FF (fld i) (vals i x y)) a H') → Q (.ref p) H'
def spNamed (c : Nat → Addr) : Sp := fun vs H Q _ => ∃ x y, vs = [x, y] ∧ ∀ (p : Addr) (ts : List Addr) (H' : Hp), Same H H' → H' p = some (.lst (ts.map V.ref)) → ts.length = 16 → (∀ j, j < 16 → ∃ t a, ts[j]? = some t ∧ H' t = some (.tup [.int ((j + 1 : Nat) : Int), .ref a]) ∧ IsE (c (j + 1)) (FF (fld (j + 1)) (vals (j + 1) x y)) a H') → Q (.ref p) H'
theorem same_trans {H H1 H2 : Hp} (a : Same H H1) (b : Same H1 H2) : Same H H2 := fun x o h => b x o (a x o h)
theorem fl0 : 0 = (fld 0).length := by decide +kernel
theorem vl0 (x y : V) : vals 0 x y = [] := by simp [vals]
theorem fl1 : 1 = (fld 1).length := by decide +kernel
theorem vl1 (x y : V) : vals 1 x y = [x] := by simp [vals]
theorem fl2 : 1 = (fld 2).length := by decide +kernel
theorem vl2 (x y : V) : vals 2 x y = [x] := by simp [vals]
theorem fl3 : 2 = (fld 3).length := by decide +kernel
theorem vl3 (x y : V) : vals 3 x y = [x, y] := by simp [vals]
theorem fl4 : 1 = (fld 4).length := by decide +kernel
theorem vl4 (x y : V) : vals 4 x y = [x] := by simp [vals]
theorem fl5 : 1 = (fld 5).length := by decide +kernel
theorem vl5 (x y : V) : vals 5 x y = [x] := by simp [vals]
theorem fl6 : 1 = (fld 6).length := by decide +kernel
theorem vl6 (x y : V) : vals 6 x y = [x] := by simp [vals]
theorem fl7 : 1 = (fld 7).length := by decide +kernel
theorem vl7 (x y : V) : vals 7 x y = [x] := by simp [vals]
theorem fl8 : 1 = (fld 8).length := by decide +kernel
theorem vl8 (x y : V) : vals 8 x y = [x] := by simp [vals]
theorem fl9 : 1 = (fld 9).length := by decide +kernel
theorem vl9 (x y : V) : vals 9 x y = [x] := by simp [vals]
theorem fl10 : 1 = (fld 10).length := by decide +kernel
theorem vl10 (x y : V) : vals 10 x y = [x] := by simp [vals]
theorem fl11 : 2 = (fld 11).length := by decide +kernel
theorem vl11 (x y : V) : vals 11 x y = [x, y] := by simp [vals]
theorem fl12 : 1 = (fld 12).length := by decide +kernel
theorem vl12 (x y : V) : vals 12 x y = [x] := by simp [vals]
theorem fl13 : 1 = (fld 13).length := by decide +kernel
theorem vl13 (x y : V) : vals 13 x y = [x] := by simp [vals]
theorem fl14 : 1 = (fld 14).length := by decide +kernel
theorem vl14 (x y : V) : vals 14 x y = [x] := by simp [vals]
theorem fl15 : 1 = (fld 15).length := by decide +kernel
theorem vl15 (x y : V) : vals 15 x y = [x] := by simp [vals]
theorem fl16 : 1 = (fld 16).length := by decide +kernel
theorem vl16 (x y : V) : vals 16 x y = [x] := by simp [vals]
section
variable {P : Program} {w : World} {K : PySem.W.Frag} {mg : Str → Option Value} {base : Heap} {c : Nat → Addr}
theorem ok_law_made {f : Addr} {fd : FuncData} (F : Fun K "_law_made" "_law_made" s_law_made f fd) (L : Lay P w K mg base c) : FnOk P w K mg base CX0 3 f fd ["_law_one", "_law_two"] (spMade c) := by
  refine F.ok sc_law_made (fun vs H Q E h => ?_) (fun cdv A outer s H vs Q E hr h => ?_)
  · obtain ⟨x, y, rfl, _⟩ := h
    rfl
  · obtain ⟨x, y, rfl, k⟩ := h
    refine ⟨_, (pss_cons (ps_set (i := 2) sc_law_made.nd rfl (Or.inl rfl) (pe_lst (pa_cons (pe_newB L 0 (by decide) rfl (by rfl)) (pa_cons (pe_new L 1 (by decide) (by decide) rfl (hr.mono (by decide)) (by rfl) (pa_cons (pv 0) pa_nil)) (pa_cons (pe_new L 2 (by decide) (by decide) rfl (hr.mono (by decide)) (by rfl) (pa_cons (pv 0) pa_nil)) (pa_cons (pe_new L 3 (by decide) (by decide) rfl (hr.mono (by decide)) (by rfl) (pa_cons (pv 0) (pa_cons (pv 1) pa_nil))) (pa_cons (pe_new L 4 (by decide) (by decide) rfl (hr.mono (by decide)) (by rfl) (pa_cons (pv 0) pa_nil)) pa_nil)))))))
      (pss_cons (ps_set (i := 2) sc_law_made.nd rfl (Or.inl rfl) (pe_op op_cat (pv 2) (pe_lst (pa_cons (pe_new L 5 (by decide) (by decide) rfl (hr.mono (by decide)) (by rfl) (pa_cons (pv 0) pa_nil)) (pa_cons (pe_new L 6 (by decide) (by decide) rfl (hr.mono (by decide)) (by rfl) (pa_cons (pv 0) pa_nil)) (pa_cons (pe_new L 7 (by decide) (by decide) rfl (hr.mono (by decide)) (by rfl) (pa_cons (pv 0) pa_nil)) (pa_cons (pe_new L 8 (by decide) (by decide) rfl (hr.mono (by decide)) (by rfl) (pa_cons (pv 0) pa_nil)) (pa_cons (pe_new L 9 (by decide) (by decide) rfl (hr.mono (by decide)) (by rfl) (pa_cons (pv 0) pa_nil)) pa_nil))))))))
      (pss_cons (ps_set (i := 2) sc_law_made.nd rfl (Or.inl rfl) (pe_op op_cat (pv 2) (pe_lst (pa_cons (pe_new L 10 (by decide) (by decide) rfl (hr.mono (by decide)) (by rfl) (pa_cons (pv 0) pa_nil)) (pa_cons (pe_new L 11 (by decide) (by decide) rfl (hr.mono (by decide)) (by rfl) (pa_cons (pv 0) (pa_cons (pv 1) pa_nil))) (pa_cons (pe_new L 12 (by decide) (by decide) rfl (hr.mono (by decide)) (by rfl) (pa_cons (pv 0) pa_nil)) (pa_cons (pe_new L 13 (by decide) (by decide) rfl (hr.mono (by decide)) (by rfl) (pa_cons (pv 0) pa_nil)) (pa_cons (pe_new L 14 (by decide) (by decide) rfl (hr.mono (by decide)) (by rfl) (pa_cons (pv 0) pa_nil)) pa_nil))))))))
      (pss_one (ps_ret (pe_op op_cat (pv 2) (pe_lst (pa_cons (pe_new L 15 (by decide) (by decide) rfl (hr.mono (by decide)) (by rfl) (pa_cons (pv 0) pa_nil)) (pa_cons (pe_new L 16 (by decide) (by decide) rfl (hr.mono (by decide)) (by rfl) (pa_cons (pv 0) pa_nil)) pa_nil))))))))), ?_⟩
    try dsimp only [cxOf]
    rw [show L2.start N_law_made [x, y] = [some x, some y, none] from rfl]
    have S : Same H H := fun _ _ e => e
    walk_at "hgo"
    refine ⟨fl0, ?_⟩
    intro a0 H0_ n0 e0 x0
    replace S := same_trans S e0
    walk_at "hgo"
    refine ⟨fl1, ?_⟩
    intro a1 H1_ n1 e1 x1
    replace x0 := x0.ext e1
    replace S := same_trans S e1
    walk_at "hgo"
    refine ⟨fl2, ?_⟩
    intro a2 H2_ n2 e2 x2
    replace x0 := x0.ext e2
    replace x1 := x1.ext e2
    replace S := same_trans S e2
    walk_at "hgo"
    refine ⟨fl3, ?_⟩
    intro a3 H3_ n3 e3 x3
    replace x0 := x0.ext e3
    replace x1 := x1.ext e3
    replace x2 := x2.ext e3
    replace S := same_trans S e3
    walk_at "hgo"
    refine ⟨fl4, ?_⟩
    intro a4 H4_ n4 e4 x4
    replace x0 := x0.ext e4
    replace x1 := x1.ext e4
    replace x2 := x2.ext e4
    replace x3 := x3.ext e4
    replace S := same_trans S e4
    walk_at "hgo"
    intro p0 q0
    have s0 := same_new (o := .lst [.ref a0, .ref a1, .ref a2, .ref a3, .ref a4]) q0
    have l0 : upd H4_ p0 (.lst [.ref a0, .ref a1, .ref a2, .ref a3, .ref a4]) p0 = some (.lst [.ref a0, .ref a1, .ref a2, .ref a3, .ref a4]) := upd_same
    generalize upd H4_ p0 (.lst [.ref a0, .ref a1, .ref a2, .ref a3, .ref a4]) = D0 at s0 l0 ⊢
    replace x0 := x0.ext s0
    replace x1 := x1.ext s0
    replace x2 := x2.ext s0
    replace x3 := x3.ext s0
    replace x4 := x4.ext s0
    replace S := same_trans S s0
    walk_at "hgo"
    refine ⟨fl5, ?_⟩
    intro a5 H5_ n5 e5 x5
    replace x0 := x0.ext e5
    replace x1 := x1.ext e5
    replace x2 := x2.ext e5
    replace x3 := x3.ext e5
    replace x4 := x4.ext e5
    replace l0 := e5 _ _ l0
    replace S := same_trans S e5
    walk_at "hgo"
    refine ⟨fl6, ?_⟩
    intro a6 H6_ n6 e6 x6
    replace x0 := x0.ext e6
    replace x1 := x1.ext e6
    replace x2 := x2.ext e6
    replace x3 := x3.ext e6
    replace x4 := x4.ext e6
    replace l0 := e6 _ _ l0
    replace x5 := x5.ext e6
    replace S := same_trans S e6
    walk_at "hgo"
    refine ⟨fl7, ?_⟩
    intro a7 H7_ n7 e7 x7
    replace x0 := x0.ext e7
    replace x1 := x1.ext e7
    replace x2 := x2.ext e7
    replace x3 := x3.ext e7
    replace x4 := x4.ext e7
    replace l0 := e7 _ _ l0
    replace x5 := x5.ext e7
    replace x6 := x6.ext e7
    replace S := same_trans S e7
    walk_at "hgo"
    refine ⟨fl8, ?_⟩
    intro a8 H8_ n8 e8 x8
    replace x0 := x0.ext e8
    replace x1 := x1.ext e8
    replace x2 := x2.ext e8
    replace x3 := x3.ext e8
    replace x4 := x4.ext e8
    replace l0 := e8 _ _ l0
    replace x5 := x5.ext e8
    replace x6 := x6.ext e8
    replace x7 := x7.ext e8
    replace S := same_trans S e8
    walk_at "hgo"
    refine ⟨fl9, ?_⟩
    intro a9 H9_ n9 e9 x9
    replace x0 := x0.ext e9
    replace x1 := x1.ext e9
    replace x2 := x2.ext e9
    replace x3 := x3.ext e9
    replace x4 := x4.ext e9
    replace l0 := e9 _ _ l0
    replace x5 := x5.ext e9
    replace x6 := x6.ext e9
    replace x7 := x7.ext e9
    replace x8 := x8.ext e9
    replace S := same_trans S e9
    walk_at "hgo"
    intro p1 q1
    have s1 := same_new (o := .lst [.ref a5, .ref a6, .ref a7, .ref a8, .ref a9]) q1
    have l1 : upd H9_ p1 (.lst [.ref a5, .ref a6, .ref a7, .ref a8, .ref a9]) p1 = some (.lst [.ref a5, .ref a6, .ref a7, .ref a8, .ref a9]) := upd_same
    generalize upd H9_ p1 (.lst [.ref a5, .ref a6, .ref a7, .ref a8, .ref a9]) = D1 at s1 l1 ⊢
    replace x0 := x0.ext s1
    replace x1 := x1.ext s1
    replace x2 := x2.ext s1
    replace x3 := x3.ext s1
    replace x4 := x4.ext s1
    replace l0 := s1 _ _ l0
    replace x5 := x5.ext s1
    replace x6 := x6.ext s1
    replace x7 := x7.ext s1
    replace x8 := x8.ext s1
    replace x9 := x9.ext s1
    replace S := same_trans S s1
    walk_at "hgo"
    refine g_catW (ws := [.ref a0, .ref a1, .ref a2, .ref a3, .ref a4, .ref a5, .ref a6, .ref a7, .ref a8, .ref a9]) l0 l1 (by simp only [List.cons_append, List.nil_append]) (small_of (by simp)) ?_
    intro b1 v1
    have u1 := same_new (o := .lst [.ref a0, .ref a1, .ref a2, .ref a3, .ref a4, .ref a5, .ref a6, .ref a7, .ref a8, .ref a9]) v1
    have z1 : upd D1 b1 (.lst [.ref a0, .ref a1, .ref a2, .ref a3, .ref a4, .ref a5, .ref a6, .ref a7, .ref a8, .ref a9]) b1 = some (.lst [.ref a0, .ref a1, .ref a2, .ref a3, .ref a4, .ref a5, .ref a6, .ref a7, .ref a8, .ref a9]) := upd_same
    generalize upd D1 b1 (.lst [.ref a0, .ref a1, .ref a2, .ref a3, .ref a4, .ref a5, .ref a6, .ref a7, .ref a8, .ref a9]) = B1 at u1 z1 ⊢
    replace x0 := x0.ext u1
    replace x1 := x1.ext u1
    replace x2 := x2.ext u1
    replace x3 := x3.ext u1
    replace x4 := x4.ext u1
    replace x5 := x5.ext u1
    replace x6 := x6.ext u1
    replace x7 := x7.ext u1
    replace x8 := x8.ext u1
    replace x9 := x9.ext u1
    replace S := same_trans S u1
    walk_at "hgo"
    refine ⟨fl10, ?_⟩
    intro a10 H10_ n10 e10 x10
    replace x0 := x0.ext e10
    replace x1 := x1.ext e10
    replace x2 := x2.ext e10
    replace x3 := x3.ext e10
    replace x4 := x4.ext e10
    replace x5 := x5.ext e10
    replace x6 := x6.ext e10
    replace x7 := x7.ext e10
    replace x8 := x8.ext e10
    replace x9 := x9.ext e10
    replace z1 := e10 _ _ z1
    replace S := same_trans S e10
    walk_at "hgo"
    refine ⟨fl11, ?_⟩
    intro a11 H11_ n11 e11 x11
    replace x0 := x0.ext e11
    replace x1 := x1.ext e11
    replace x2 := x2.ext e11
    replace x3 := x3.ext e11
    replace x4 := x4.ext e11
    replace x5 := x5.ext e11
    replace x6 := x6.ext e11
    replace x7 := x7.ext e11
    replace x8 := x8.ext e11
    replace x9 := x9.ext e11
    replace z1 := e11 _ _ z1
    replace x10 := x10.ext e11
    replace S := same_trans S e11
    walk_at "hgo"
    refine ⟨fl12, ?_⟩
    intro a12 H12_ n12 e12 x12
    replace x0 := x0.ext e12
    replace x1 := x1.ext e12
    replace x2 := x2.ext e12
    replace x3 := x3.ext e12
    replace x4 := x4.ext e12
    replace x5 := x5.ext e12
    replace x6 := x6.ext e12
    replace x7 := x7.ext e12
    replace x8 := x8.ext e12
    replace x9 := x9.ext e12
    replace z1 := e12 _ _ z1
    replace x10 := x10.ext e12
    replace x11 := x11.ext e12
    replace S := same_trans S e12
    walk_at "hgo"
    refine ⟨fl13, ?_⟩
    intro a13 H13_ n13 e13 x13
    replace x0 := x0.ext e13
    replace x1 := x1.ext e13
    replace x2 := x2.ext e13
    replace x3 := x3.ext e13
    replace x4 := x4.ext e13
    replace x5 := x5.ext e13
    replace x6 := x6.ext e13
    replace x7 := x7.ext e13
    replace x8 := x8.ext e13
    replace x9 := x9.ext e13
    replace z1 := e13 _ _ z1
    replace x10 := x10.ext e13
    replace x11 := x11.ext e13
    replace x12 := x12.ext e13
    replace S := same_trans S e13
    walk_at "hgo"
    refine ⟨fl14, ?_⟩
    intro a14 H14_ n14 e14 x14
    replace x0 := x0.ext e14
    replace x1 := x1.ext e14
    replace x2 := x2.ext e14
    replace x3 := x3.ext e14
    replace x4 := x4.ext e14
    replace x5 := x5.ext e14
    replace x6 := x6.ext e14
    replace x7 := x7.ext e14
    replace x8 := x8.ext e14
    replace x9 := x9.ext e14
    replace z1 := e14 _ _ z1
    replace x10 := x10.ext e14
    replace x11 := x11.ext e14
    replace x12 := x12.ext e14
    replace x13 := x13.ext e14
    replace S := same_trans S e14
    walk_at "hgo"
    intro p2 q2
    have s2 := same_new (o := .lst [.ref a10, .ref a11, .ref a12, .ref a13, .ref a14]) q2
    have l2 : upd H14_ p2 (.lst [.ref a10, .ref a11, .ref a12, .ref a13, .ref a14]) p2 = some (.lst [.ref a10, .ref a11, .ref a12, .ref a13, .ref a14]) := upd_same
    generalize upd H14_ p2 (.lst [.ref a10, .ref a11, .ref a12, .ref a13, .ref a14]) = D2 at s2 l2 ⊢
    replace x0 := x0.ext s2
    replace x1 := x1.ext s2
    replace x2 := x2.ext s2
    replace x3 := x3.ext s2
    replace x4 := x4.ext s2
    replace x5 := x5.ext s2
    replace x6 := x6.ext s2
    replace x7 := x7.ext s2
    replace x8 := x8.ext s2
    replace x9 := x9.ext s2
    replace z1 := s2 _ _ z1
    replace x10 := x10.ext s2
    replace x11 := x11.ext s2
    replace x12 := x12.ext s2
    replace x13 := x13.ext s2
    replace x14 := x14.ext s2
    replace S := same_trans S s2
    walk_at "hgo"
    refine g_catW (ws := [.ref a0, .ref a1, .ref a2, .ref a3, .ref a4, .ref a5, .ref a6, .ref a7, .ref a8, .ref a9, .ref a10, .ref a11, .ref a12, .ref a13, .ref a14]) z1 l2 (by simp only [List.cons_append, List.nil_append]) (small_of (by simp)) ?_
    intro b2 v2
    have u2 := same_new (o := .lst [.ref a0, .ref a1, .ref a2, .ref a3, .ref a4, .ref a5, .ref a6, .ref a7, .ref a8, .ref a9, .ref a10, .ref a11, .ref a12, .ref a13, .ref a14]) v2
    have z2 : upd D2 b2 (.lst [.ref a0, .ref a1, .ref a2, .ref a3, .ref a4, .ref a5, .ref a6, .ref a7, .ref a8, .ref a9, .ref a10, .ref a11, .ref a12, .ref a13, .ref a14]) b2 = some (.lst [.ref a0, .ref a1, .ref a2, .ref a3, .ref a4, .ref a5, .ref a6, .ref a7, .ref a8, .ref a9, .ref a10, .ref a11, .ref a12, .ref a13, .ref a14]) := upd_same
    generalize upd D2 b2 (.lst [.ref a0, .ref a1, .ref a2, .ref a3, .ref a4, .ref a5, .ref a6, .ref a7, .ref a8, .ref a9, .ref a10, .ref a11, .ref a12, .ref a13, .ref a14]) = B2 at u2 z2 ⊢
    replace x0 := x0.ext u2
    replace x1 := x1.ext u2
    replace x2 := x2.ext u2
    replace x3 := x3.ext u2
    replace x4 := x4.ext u2
    replace x5 := x5.ext u2
    replace x6 := x6.ext u2
    replace x7 := x7.ext u2
    replace x8 := x8.ext u2
    replace x9 := x9.ext u2
    replace x10 := x10.ext u2
    replace x11 := x11.ext u2
    replace x12 := x12.ext u2
    replace x13 := x13.ext u2
    replace x14 := x14.ext u2
    replace S := same_trans S u2
    walk_at "hgo"
    refine ⟨fl15, ?_⟩
    intro a15 H15_ n15 e15 x15
    replace x0 := x0.ext e15
    replace x1 := x1.ext e15
    replace x2 := x2.ext e15
    replace x3 := x3.ext e15
    replace x4 := x4.ext e15
    replace x5 := x5.ext e15
    replace x6 := x6.ext e15
    replace x7 := x7.ext e15
    replace x8 := x8.ext e15
    replace x9 := x9.ext e15
    replace x10 := x10.ext e15
    replace x11 := x11.ext e15
    replace x12 := x12.ext e15
    replace x13 := x13.ext e15
    replace x14 := x14.ext e15
    replace z2 := e15 _ _ z2
    replace S := same_trans S e15
    walk_at "hgo"
    refine ⟨fl16, ?_⟩
    intro a16 H16_ n16 e16 x16
    replace x0 := x0.ext e16
    replace x1 := x1.ext e16
    replace x2 := x2.ext e16
    replace x3 := x3.ext e16
    replace x4 := x4.ext e16
    replace x5 := x5.ext e16
    replace x6 := x6.ext e16
    replace x7 := x7.ext e16
    replace x8 := x8.ext e16
    replace x9 := x9.ext e16
    replace x10 := x10.ext e16
    replace x11 := x11.ext e16
    replace x12 := x12.ext e16
    replace x13 := x13.ext e16
    replace x14 := x14.ext e16
    replace z2 := e16 _ _ z2
    replace x15 := x15.ext e16
    replace S := same_trans S e16
    walk_at "hgo"
    intro p3 q3
    have s3 := same_new (o := .lst [.ref a15, .ref a16]) q3
    have l3 : upd H16_ p3 (.lst [.ref a15, .ref a16]) p3 = some (.lst [.ref a15, .ref a16]) := upd_same
    generalize upd H16_ p3 (.lst [.ref a15, .ref a16]) = D3 at s3 l3 ⊢
    replace x0 := x0.ext s3
    replace x1 := x1.ext s3
    replace x2 := x2.ext s3
    replace x3 := x3.ext s3
    replace x4 := x4.ext s3
    replace x5 := x5.ext s3
    replace x6 := x6.ext s3
    replace x7 := x7.ext s3
    replace x8 := x8.ext s3
    replace x9 := x9.ext s3
    replace x10 := x10.ext s3
    replace x11 := x11.ext s3
    replace x12 := x12.ext s3
    replace x13 := x13.ext s3
    replace x14 := x14.ext s3
    replace z2 := s3 _ _ z2
    replace x15 := x15.ext s3
    replace x16 := x16.ext s3
    replace S := same_trans S s3
    walk_at "hgo"
    refine g_catW (ws := [.ref a0, .ref a1, .ref a2, .ref a3, .ref a4, .ref a5, .ref a6, .ref a7, .ref a8, .ref a9, .ref a10, .ref a11, .ref a12, .ref a13, .ref a14, .ref a15, .ref a16]) z2 l3 (by simp only [List.cons_append, List.nil_append]) (small_of (by simp)) ?_
    intro b3 v3
    have u3 := same_new (o := .lst [.ref a0, .ref a1, .ref a2, .ref a3, .ref a4, .ref a5, .ref a6, .ref a7, .ref a8, .ref a9, .ref a10, .ref a11, .ref a12, .ref a13, .ref a14, .ref a15, .ref a16]) v3
    have z3 : upd D3 b3 (.lst [.ref a0, .ref a1, .ref a2, .ref a3, .ref a4, .ref a5, .ref a6, .ref a7, .ref a8, .ref a9, .ref a10, .ref a11, .ref a12, .ref a13, .ref a14, .ref a15, .ref a16]) b3 = some (.lst [.ref a0, .ref a1, .ref a2, .ref a3, .ref a4, .ref a5, .ref a6, .ref a7, .ref a8, .ref a9, .ref a10, .ref a11, .ref a12, .ref a13, .ref a14, .ref a15, .ref a16]) := upd_same
    generalize upd D3 b3 (.lst [.ref a0, .ref a1, .ref a2, .ref a3, .ref a4, .ref a5, .ref a6, .ref a7, .ref a8, .ref a9, .ref a10, .ref a11, .ref a12, .ref a13, .ref a14, .ref a15, .ref a16]) = B3 at u3 z3 ⊢
    replace x0 := x0.ext u3
    replace x1 := x1.ext u3
    replace x2 := x2.ext u3
    replace x3 := x3.ext u3
    replace x4 := x4.ext u3
    replace x5 := x5.ext u3
    replace x6 := x6.ext u3
    replace x7 := x7.ext u3
    replace x8 := x8.ext u3
    replace x9 := x9.ext u3
    replace x10 := x10.ext u3
    replace x11 := x11.ext u3
    replace x12 := x12.ext u3
    replace x13 := x13.ext u3
    replace x14 := x14.ext u3
    replace x15 := x15.ext u3
    replace x16 := x16.ext u3
    replace S := same_trans S u3
    walk_at "hgo"
    refine k _ [a0, a1, a2, a3, a4, a5, a6, a7, a8, a9, a10, a11, a12, a13, a14, a15, a16] _ S z3 rfl ?_
    intro j hj
    have jj : j = 0 ∨ j = 1 ∨ j = 2 ∨ j = 3 ∨ j = 4 ∨ j = 5 ∨ j = 6 ∨ j = 7 ∨ j = 8 ∨ j = 9 ∨ j = 10 ∨ j = 11 ∨ j = 12 ∨ j = 13 ∨ j = 14 ∨ j = 15 ∨ j = 16 := by omega
    rcases jj with rfl | rfl | rfl | rfl | rfl | rfl | rfl | rfl | rfl | rfl | rfl | rfl | rfl | rfl | rfl | rfl | rfl
    · skip
      rw [vl0]
      exact ⟨a0, by simp, x0⟩
    · skip
      rw [vl1]
      exact ⟨a1, by simp, x1⟩
    · skip
      rw [vl2]
      exact ⟨a2, by simp, x2⟩
    · skip
      rw [vl3]
      exact ⟨a3, by simp, x3⟩
    · skip
      rw [vl4]
      exact ⟨a4, by simp, x4⟩
    · skip
      rw [vl5]
      exact ⟨a5, by simp, x5⟩
    · skip
      rw [vl6]
      exact ⟨a6, by simp, x6⟩
    · skip
      rw [vl7]
      exact ⟨a7, by simp, x7⟩
    · skip
      rw [vl8]
      exact ⟨a8, by simp, x8⟩
    · skip
      rw [vl9]
      exact ⟨a9, by simp, x9⟩
    · skip
      rw [vl10]
      exact ⟨a10, by simp, x10⟩
    · skip
      rw [vl11]
      exact ⟨a11, by simp, x11⟩
    · skip
      rw [vl12]
      exact ⟨a12, by simp, x12⟩
    · skip
      rw [vl13]
      exact ⟨a13, by simp, x13⟩
    · skip
      rw [vl14]
      exact ⟨a14, by simp, x14⟩
    · skip
      rw [vl15]
      exact ⟨a15, by simp, x15⟩
    · skip
      rw [vl16]
      exact ⟨a16, by simp, x16⟩
theorem ok_law_named {f : Addr} {fd : FuncData} (F : Fun K "_law_named" "_law_named" s_law_named f fd) (L : Lay P w K mg base c) : FnOk P w K mg base CX0 3 f fd ["_law_one", "_law_two"] (spNamed c) := by
  refine F.ok sc_law_named (fun vs H Q E h => ?_) (fun cdv A outer s H vs Q E hr h => ?_)
  · obtain ⟨x, y, rfl, _⟩ := h
    rfl
  · obtain ⟨x, y, rfl, k⟩ := h
    refine ⟨_, (pss_cons (ps_set (i := 2) sc_law_named.nd rfl (Or.inl rfl) (pe_lst (pa_cons (pe_tup (pa_cons pe_int (pa_cons (pe_newK L 1 (by decide) (by decide) rfl (hr.mono (by decide)) (by rfl) (pk_cons (pv 0) pk_nil)) pa_nil))) (pa_cons (pe_tup (pa_cons pe_int (pa_cons (pe_newK L 2 (by decide) (by decide) rfl (hr.mono (by decide)) (by rfl) (pk_cons (pv 0) pk_nil)) pa_nil))) (pa_cons (pe_tup (pa_cons pe_int (pa_cons (pe_newK L 3 (by decide) (by decide) rfl (hr.mono (by decide)) (by rfl) (pk_cons (pv 1) (pk_cons (pv 0) pk_nil))) pa_nil))) pa_nil)))))
      (pss_cons (ps_set (i := 2) sc_law_named.nd rfl (Or.inl rfl) (pe_op op_cat (pv 2) (pe_lst (pa_cons (pe_tup (pa_cons pe_int (pa_cons (pe_newK L 4 (by decide) (by decide) rfl (hr.mono (by decide)) (by rfl) (pk_cons (pv 0) pk_nil)) pa_nil))) (pa_cons (pe_tup (pa_cons pe_int (pa_cons (pe_newK L 5 (by decide) (by decide) rfl (hr.mono (by decide)) (by rfl) (pk_cons (pv 0) pk_nil)) pa_nil))) (pa_cons (pe_tup (pa_cons pe_int (pa_cons (pe_newK L 6 (by decide) (by decide) rfl (hr.mono (by decide)) (by rfl) (pk_cons (pv 0) pk_nil)) pa_nil))) pa_nil))))))
      (pss_cons (ps_set (i := 2) sc_law_named.nd rfl (Or.inl rfl) (pe_op op_cat (pv 2) (pe_lst (pa_cons (pe_tup (pa_cons pe_int (pa_cons (pe_newK L 7 (by decide) (by decide) rfl (hr.mono (by decide)) (by rfl) (pk_cons (pv 0) pk_nil)) pa_nil))) (pa_cons (pe_tup (pa_cons pe_int (pa_cons (pe_newK L 8 (by decide) (by decide) rfl (hr.mono (by decide)) (by rfl) (pk_cons (pv 0) pk_nil)) pa_nil))) (pa_cons (pe_tup (pa_cons pe_int (pa_cons (pe_newK L 9 (by decide) (by decide) rfl (hr.mono (by decide)) (by rfl) (pk_cons (pv 0) pk_nil)) pa_nil))) pa_nil))))))
      (pss_cons (ps_set (i := 2) sc_law_named.nd rfl (Or.inl rfl) (pe_op op_cat (pv 2) (pe_lst (pa_cons (pe_tup (pa_cons pe_int (pa_cons (pe_newK L 10 (by decide) (by decide) rfl (hr.mono (by decide)) (by rfl) (pk_cons (pv 0) pk_nil)) pa_nil))) (pa_cons (pe_tup (pa_cons pe_int (pa_cons (pe_newK L 11 (by decide) (by decide) rfl (hr.mono (by decide)) (by rfl) (pk_cons (pv 1) (pk_cons (pv 0) pk_nil))) pa_nil))) pa_nil)))))
      (pss_cons (ps_set (i := 2) sc_law_named.nd rfl (Or.inl rfl) (pe_op op_cat (pv 2) (pe_lst (pa_cons (pe_tup (pa_cons pe_int (pa_cons (pe_newK L 12 (by decide) (by decide) rfl (hr.mono (by decide)) (by rfl) (pk_cons (pv 0) pk_nil)) pa_nil))) (pa_cons (pe_tup (pa_cons pe_int (pa_cons (pe_newK L 13 (by decide) (by decide) rfl (hr.mono (by decide)) (by rfl) (pk_cons (pv 0) pk_nil)) pa_nil))) (pa_cons (pe_tup (pa_cons pe_int (pa_cons (pe_newK L 14 (by decide) (by decide) rfl (hr.mono (by decide)) (by rfl) (pk_cons (pv 0) pk_nil)) pa_nil))) pa_nil))))))
      (pss_one (ps_ret (pe_op op_cat (pv 2) (pe_lst (pa_cons (pe_tup (pa_cons pe_int (pa_cons (pe_newK L 15 (by decide) (by decide) rfl (hr.mono (by decide)) (by rfl) (pk_cons (pv 0) pk_nil)) pa_nil))) (pa_cons (pe_tup (pa_cons pe_int (pa_cons (pe_newK L 16 (by decide) (by decide) rfl (hr.mono (by decide)) (by rfl) (pk_cons (pv 0) pk_nil)) pa_nil))) pa_nil))))))))))), ?_⟩
    try dsimp only [cxOf]
    rw [show L2.start N_law_named [x, y] = [some x, some y, none] from rfl]
    have S : Same H H := fun _ _ e => e
    walk_at "hgo"
    refine ⟨fl1, ?_⟩
    intro a1 H1_ n1 e1 x1
    replace S := same_trans S e1
    walk_at "hgo"
    intro t1 m1
    have r1 := same_new (o := .tup [V.int 1, .ref a1]) m1
    have y1 : upd H1_ t1 (.tup [V.int 1, .ref a1]) t1 = some (.tup [V.int 1, .ref a1]) := upd_same
    generalize upd H1_ t1 (.tup [V.int 1, .ref a1]) = G1 at r1 y1 ⊢
    replace x1 := x1.ext r1
    replace S := same_trans S r1
    walk_at "hgo"
    refine ⟨fl2, ?_⟩
    intro a2 H2_ n2 e2 x2
    replace x1 := x1.ext e2
    replace y1 := e2 _ _ y1
    replace S := same_trans S e2
    walk_at "hgo"
    intro t2 m2
    have r2 := same_new (o := .tup [V.int 2, .ref a2]) m2
    have y2 : upd H2_ t2 (.tup [V.int 2, .ref a2]) t2 = some (.tup [V.int 2, .ref a2]) := upd_same
    generalize upd H2_ t2 (.tup [V.int 2, .ref a2]) = G2 at r2 y2 ⊢
    replace x1 := x1.ext r2
    replace y1 := r2 _ _ y1
    replace x2 := x2.ext r2
    replace S := same_trans S r2
    walk_at "hgo"
    refine ⟨fl3, ?_⟩
    intro a3 H3_ n3 e3 x3
    replace x1 := x1.ext e3
    replace y1 := e3 _ _ y1
    replace x2 := x2.ext e3
    replace y2 := e3 _ _ y2
    replace S := same_trans S e3
    walk_at "hgo"
    intro t3 m3
    have r3 := same_new (o := .tup [V.int 3, .ref a3]) m3
    have y3 : upd H3_ t3 (.tup [V.int 3, .ref a3]) t3 = some (.tup [V.int 3, .ref a3]) := upd_same
    generalize upd H3_ t3 (.tup [V.int 3, .ref a3]) = G3 at r3 y3 ⊢
    replace x1 := x1.ext r3
    replace y1 := r3 _ _ y1
    replace x2 := x2.ext r3
    replace y2 := r3 _ _ y2
    replace x3 := x3.ext r3
    replace S := same_trans S r3
    walk_at "hgo"
    intro p0 q0
    have s0 := same_new (o := .lst [.ref t1, .ref t2, .ref t3]) q0
    have l0 : upd G3 p0 (.lst [.ref t1, .ref t2, .ref t3]) p0 = some (.lst [.ref t1, .ref t2, .ref t3]) := upd_same
    generalize upd G3 p0 (.lst [.ref t1, .ref t2, .ref t3]) = D0 at s0 l0 ⊢
    replace x1 := x1.ext s0
    replace y1 := s0 _ _ y1
    replace x2 := x2.ext s0
    replace y2 := s0 _ _ y2
    replace x3 := x3.ext s0
    replace y3 := s0 _ _ y3
    replace S := same_trans S s0
    walk_at "hgo"
    refine ⟨fl4, ?_⟩
    intro a4 H4_ n4 e4 x4
    replace x1 := x1.ext e4
    replace y1 := e4 _ _ y1
    replace x2 := x2.ext e4
    replace y2 := e4 _ _ y2
    replace x3 := x3.ext e4
    replace y3 := e4 _ _ y3
    replace l0 := e4 _ _ l0
    replace S := same_trans S e4
    walk_at "hgo"
    intro t4 m4
    have r4 := same_new (o := .tup [V.int 4, .ref a4]) m4
    have y4 : upd H4_ t4 (.tup [V.int 4, .ref a4]) t4 = some (.tup [V.int 4, .ref a4]) := upd_same
    generalize upd H4_ t4 (.tup [V.int 4, .ref a4]) = G4 at r4 y4 ⊢
    replace x1 := x1.ext r4
    replace y1 := r4 _ _ y1
    replace x2 := x2.ext r4
    replace y2 := r4 _ _ y2
    replace x3 := x3.ext r4
    replace y3 := r4 _ _ y3
    replace l0 := r4 _ _ l0
    replace x4 := x4.ext r4
    replace S := same_trans S r4
    walk_at "hgo"
    refine ⟨fl5, ?_⟩
    intro a5 H5_ n5 e5 x5
    replace x1 := x1.ext e5
    replace y1 := e5 _ _ y1
    replace x2 := x2.ext e5
    replace y2 := e5 _ _ y2
    replace x3 := x3.ext e5
    replace y3 := e5 _ _ y3
    replace l0 := e5 _ _ l0
    replace x4 := x4.ext e5
    replace y4 := e5 _ _ y4
    replace S := same_trans S e5
    walk_at "hgo"
    intro t5 m5
    have r5 := same_new (o := .tup [V.int 5, .ref a5]) m5
    have y5 : upd H5_ t5 (.tup [V.int 5, .ref a5]) t5 = some (.tup [V.int 5, .ref a5]) := upd_same
    generalize upd H5_ t5 (.tup [V.int 5, .ref a5]) = G5 at r5 y5 ⊢
    replace x1 := x1.ext r5
    replace y1 := r5 _ _ y1
    replace x2 := x2.ext r5
    replace y2 := r5 _ _ y2
    replace x3 := x3.ext r5
    replace y3 := r5 _ _ y3
    replace l0 := r5 _ _ l0
    replace x4 := x4.ext r5
    replace y4 := r5 _ _ y4
    replace x5 := x5.ext r5
    replace S := same_trans S r5
    walk_at "hgo"
    refine ⟨fl6, ?_⟩
    intro a6 H6_ n6 e6 x6
    replace x1 := x1.ext e6
    replace y1 := e6 _ _ y1
    replace x2 := x2.ext e6
    replace y2 := e6 _ _ y2
    replace x3 := x3.ext e6
    replace y3 := e6 _ _ y3
    replace l0 := e6 _ _ l0
    replace x4 := x4.ext e6
    replace y4 := e6 _ _ y4
    replace x5 := x5.ext e6
    replace y5 := e6 _ _ y5
    replace S := same_trans S e6
    walk_at "hgo"
    intro t6 m6
    have r6 := same_new (o := .tup [V.int 6, .ref a6]) m6
    have y6 : upd H6_ t6 (.tup [V.int 6, .ref a6]) t6 = some (.tup [V.int 6, .ref a6]) := upd_same
    generalize upd H6_ t6 (.tup [V.int 6, .ref a6]) = G6 at r6 y6 ⊢
    replace x1 := x1.ext r6
    replace y1 := r6 _ _ y1
    replace x2 := x2.ext r6
    replace y2 := r6 _ _ y2
    replace x3 := x3.ext r6
    replace y3 := r6 _ _ y3
    replace l0 := r6 _ _ l0
    replace x4 := x4.ext r6
    replace y4 := r6 _ _ y4
    replace x5 := x5.ext r6
    replace y5 := r6 _ _ y5
    replace x6 := x6.ext r6
    replace S := same_trans S r6
    walk_at "hgo"
    intro p1 q1
    have s1 := same_new (o := .lst [.ref t4, .ref t5, .ref t6]) q1
    have l1 : upd G6 p1 (.lst [.ref t4, .ref t5, .ref t6]) p1 = some (.lst [.ref t4, .ref t5, .ref t6]) := upd_same
    generalize upd G6 p1 (.lst [.ref t4, .ref t5, .ref t6]) = D1 at s1 l1 ⊢
    replace x1 := x1.ext s1
    replace y1 := s1 _ _ y1
    replace x2 := x2.ext s1
    replace y2 := s1 _ _ y2
    replace x3 := x3.ext s1
    replace y3 := s1 _ _ y3
    replace l0 := s1 _ _ l0
    replace x4 := x4.ext s1
    replace y4 := s1 _ _ y4
    replace x5 := x5.ext s1
    replace y5 := s1 _ _ y5
    replace x6 := x6.ext s1
    replace y6 := s1 _ _ y6
    replace S := same_trans S s1
    walk_at "hgo"
    refine g_catW (ws := [.ref t1, .ref t2, .ref t3, .ref t4, .ref t5, .ref t6]) l0 l1 (by simp only [List.cons_append, List.nil_append]) (small_of (by simp)) ?_
    intro b1 v1
    have u1 := same_new (o := .lst [.ref t1, .ref t2, .ref t3, .ref t4, .ref t5, .ref t6]) v1
    have z1 : upd D1 b1 (.lst [.ref t1, .ref t2, .ref t3, .ref t4, .ref t5, .ref t6]) b1 = some (.lst [.ref t1, .ref t2, .ref t3, .ref t4, .ref t5, .ref t6]) := upd_same
    generalize upd D1 b1 (.lst [.ref t1, .ref t2, .ref t3, .ref t4, .ref t5, .ref t6]) = B1 at u1 z1 ⊢
    replace x1 := x1.ext u1
    replace y1 := u1 _ _ y1
    replace x2 := x2.ext u1
    replace y2 := u1 _ _ y2
    replace x3 := x3.ext u1
    replace y3 := u1 _ _ y3
    replace x4 := x4.ext u1
    replace y4 := u1 _ _ y4
    replace x5 := x5.ext u1
    replace y5 := u1 _ _ y5
    replace x6 := x6.ext u1
    replace y6 := u1 _ _ y6
    replace S := same_trans S u1
    walk_at "hgo"
    refine ⟨fl7, ?_⟩
    intro a7 H7_ n7 e7 x7
    replace x1 := x1.ext e7
    replace y1 := e7 _ _ y1
    replace x2 := x2.ext e7
    replace y2 := e7 _ _ y2
    replace x3 := x3.ext e7
    replace y3 := e7 _ _ y3
    replace x4 := x4.ext e7
    replace y4 := e7 _ _ y4
    replace x5 := x5.ext e7
    replace y5 := e7 _ _ y5
    replace x6 := x6.ext e7
    replace y6 := e7 _ _ y6
    replace z1 := e7 _ _ z1
    replace S := same_trans S e7
    walk_at "hgo"
    intro t7 m7
    have r7 := same_new (o := .tup [V.int 7, .ref a7]) m7
    have y7 : upd H7_ t7 (.tup [V.int 7, .ref a7]) t7 = some (.tup [V.int 7, .ref a7]) := upd_same
    generalize upd H7_ t7 (.tup [V.int 7, .ref a7]) = G7 at r7 y7 ⊢
    replace x1 := x1.ext r7
    replace y1 := r7 _ _ y1
    replace x2 := x2.ext r7
    replace y2 := r7 _ _ y2
    replace x3 := x3.ext r7
    replace y3 := r7 _ _ y3
    replace x4 := x4.ext r7
    replace y4 := r7 _ _ y4
    replace x5 := x5.ext r7
    replace y5 := r7 _ _ y5
    replace x6 := x6.ext r7
    replace y6 := r7 _ _ y6
    replace z1 := r7 _ _ z1
    replace x7 := x7.ext r7
    replace S := same_trans S r7
    walk_at "hgo"
    refine ⟨fl8, ?_⟩
    intro a8 H8_ n8 e8 x8
    replace x1 := x1.ext e8
    replace y1 := e8 _ _ y1
    replace x2 := x2.ext e8
    replace y2 := e8 _ _ y2
    replace x3 := x3.ext e8
    replace y3 := e8 _ _ y3
    replace x4 := x4.ext e8
    replace y4 := e8 _ _ y4
    replace x5 := x5.ext e8
    replace y5 := e8 _ _ y5
    replace x6 := x6.ext e8
    replace y6 := e8 _ _ y6
    replace z1 := e8 _ _ z1
    replace x7 := x7.ext e8
    replace y7 := e8 _ _ y7
    replace S := same_trans S e8
    walk_at "hgo"
    intro t8 m8
    have r8 := same_new (o := .tup [V.int 8, .ref a8]) m8
    have y8 : upd H8_ t8 (.tup [V.int 8, .ref a8]) t8 = some (.tup [V.int 8, .ref a8]) := upd_same
    generalize upd H8_ t8 (.tup [V.int 8, .ref a8]) = G8 at r8 y8 ⊢
    replace x1 := x1.ext r8
    replace y1 := r8 _ _ y1
    replace x2 := x2.ext r8
    replace y2 := r8 _ _ y2
    replace x3 := x3.ext r8
    replace y3 := r8 _ _ y3
    replace x4 := x4.ext r8
    replace y4 := r8 _ _ y4
    replace x5 := x5.ext r8
    replace y5 := r8 _ _ y5
    replace x6 := x6.ext r8
    replace y6 := r8 _ _ y6
    replace z1 := r8 _ _ z1
    replace x7 := x7.ext r8
    replace y7 := r8 _ _ y7
    replace x8 := x8.ext r8
    replace S := same_trans S r8
    walk_at "hgo"
    refine ⟨fl9, ?_⟩
    intro a9 H9_ n9 e9 x9
    replace x1 := x1.ext e9
    replace y1 := e9 _ _ y1
    replace x2 := x2.ext e9
    replace y2 := e9 _ _ y2
    replace x3 := x3.ext e9
    replace y3 := e9 _ _ y3
    replace x4 := x4.ext e9
    replace y4 := e9 _ _ y4
    replace x5 := x5.ext e9
    replace y5 := e9 _ _ y5
    replace x6 := x6.ext e9
    replace y6 := e9 _ _ y6
    replace z1 := e9 _ _ z1
    replace x7 := x7.ext e9
    replace y7 := e9 _ _ y7
    replace x8 := x8.ext e9
    replace y8 := e9 _ _ y8
    replace S := same_trans S e9
    walk_at "hgo"
    intro t9 m9
    have r9 := same_new (o := .tup [V.int 9, .ref a9]) m9
    have y9 : upd H9_ t9 (.tup [V.int 9, .ref a9]) t9 = some (.tup [V.int 9, .ref a9]) := upd_same
    generalize upd H9_ t9 (.tup [V.int 9, .ref a9]) = G9 at r9 y9 ⊢
    replace x1 := x1.ext r9
    replace y1 := r9 _ _ y1
    replace x2 := x2.ext r9
    replace y2 := r9 _ _ y2
    replace x3 := x3.ext r9
    replace y3 := r9 _ _ y3
    replace x4 := x4.ext r9
    replace y4 := r9 _ _ y4
    replace x5 := x5.ext r9
    replace y5 := r9 _ _ y5
    replace x6 := x6.ext r9
    replace y6 := r9 _ _ y6
    replace z1 := r9 _ _ z1
    replace x7 := x7.ext r9
    replace y7 := r9 _ _ y7
    replace x8 := x8.ext r9
    replace y8 := r9 _ _ y8
    replace x9 := x9.ext r9
    replace S := same_trans S r9
    walk_at "hgo"
    intro p2 q2
    have s2 := same_new (o := .lst [.ref t7, .ref t8, .ref t9]) q2
    have l2 : upd G9 p2 (.lst [.ref t7, .ref t8, .ref t9]) p2 = some (.lst [.ref t7, .ref t8, .ref t9]) := upd_same
    generalize upd G9 p2 (.lst [.ref t7, .ref t8, .ref t9]) = D2 at s2 l2 ⊢
    replace x1 := x1.ext s2
    replace y1 := s2 _ _ y1
    replace x2 := x2.ext s2
    replace y2 := s2 _ _ y2
    replace x3 := x3.ext s2
    replace y3 := s2 _ _ y3
    replace x4 := x4.ext s2
    replace y4 := s2 _ _ y4
    replace x5 := x5.ext s2
    replace y5 := s2 _ _ y5
    replace x6 := x6.ext s2
    replace y6 := s2 _ _ y6
    replace z1 := s2 _ _ z1
    replace x7 := x7.ext s2
    replace y7 := s2 _ _ y7
    replace x8 := x8.ext s2
    replace y8 := s2 _ _ y8
    replace x9 := x9.ext s2
    replace y9 := s2 _ _ y9
    replace S := same_trans S s2
    walk_at "hgo"
    refine g_catW (ws := [.ref t1, .ref t2, .ref t3, .ref t4, .ref t5, .ref t6, .ref t7, .ref t8, .ref t9]) z1 l2 (by simp only [List.cons_append, List.nil_append]) (small_of (by simp)) ?_
    intro b2 v2
    have u2 := same_new (o := .lst [.ref t1, .ref t2, .ref t3, .ref t4, .ref t5, .ref t6, .ref t7, .ref t8, .ref t9]) v2
    have z2 : upd D2 b2 (.lst [.ref t1, .ref t2, .ref t3, .ref t4, .ref t5, .ref t6, .ref t7, .ref t8, .ref t9]) b2 = some (.lst [.ref t1, .ref t2, .ref t3, .ref t4, .ref t5, .ref t6, .ref t7, .ref t8, .ref t9]) := upd_same
    generalize upd D2 b2 (.lst [.ref t1, .ref t2, .ref t3, .ref t4, .ref t5, .ref t6, .ref t7, .ref t8, .ref t9]) = B2 at u2 z2 ⊢
    replace x1 := x1.ext u2
    replace y1 := u2 _ _ y1
    replace x2 := x2.ext u2
    replace y2 := u2 _ _ y2
    replace x3 := x3.ext u2
    replace y3 := u2 _ _ y3
    replace x4 := x4.ext u2
    replace y4 := u2 _ _ y4
    replace x5 := x5.ext u2
    replace y5 := u2 _ _ y5
    replace x6 := x6.ext u2
    replace y6 := u2 _ _ y6
    replace x7 := x7.ext u2
    replace y7 := u2 _ _ y7
    replace x8 := x8.ext u2
    replace y8 := u2 _ _ y8
    replace x9 := x9.ext u2
    replace y9 := u2 _ _ y9
    replace S := same_trans S u2
    walk_at "hgo"
    refine ⟨fl10, ?_⟩
    intro a10 H10_ n10 e10 x10
    replace x1 := x1.ext e10
    replace y1 := e10 _ _ y1
    replace x2 := x2.ext e10
    replace y2 := e10 _ _ y2
    replace x3 := x3.ext e10
    replace y3 := e10 _ _ y3
    replace x4 := x4.ext e10
    replace y4 := e10 _ _ y4
    replace x5 := x5.ext e10
    replace y5 := e10 _ _ y5
    replace x6 := x6.ext e10
    replace y6 := e10 _ _ y6
    replace x7 := x7.ext e10
    replace y7 := e10 _ _ y7
    replace x8 := x8.ext e10
    replace y8 := e10 _ _ y8
    replace x9 := x9.ext e10
    replace y9 := e10 _ _ y9
    replace z2 := e10 _ _ z2
    replace S := same_trans S e10
    walk_at "hgo"
    intro t10 m10
    have r10 := same_new (o := .tup [V.int 10, .ref a10]) m10
    have y10 : upd H10_ t10 (.tup [V.int 10, .ref a10]) t10 = some (.tup [V.int 10, .ref a10]) := upd_same
    generalize upd H10_ t10 (.tup [V.int 10, .ref a10]) = G10 at r10 y10 ⊢
    replace x1 := x1.ext r10
    replace y1 := r10 _ _ y1
    replace x2 := x2.ext r10
    replace y2 := r10 _ _ y2
    replace x3 := x3.ext r10
    replace y3 := r10 _ _ y3
    replace x4 := x4.ext r10
    replace y4 := r10 _ _ y4
    replace x5 := x5.ext r10
    replace y5 := r10 _ _ y5
    replace x6 := x6.ext r10
    replace y6 := r10 _ _ y6
    replace x7 := x7.ext r10
    replace y7 := r10 _ _ y7
    replace x8 := x8.ext r10
    replace y8 := r10 _ _ y8
    replace x9 := x9.ext r10
    replace y9 := r10 _ _ y9
    replace z2 := r10 _ _ z2
    replace x10 := x10.ext r10
    replace S := same_trans S r10
    walk_at "hgo"
    refine ⟨fl11, ?_⟩
    intro a11 H11_ n11 e11 x11
    replace x1 := x1.ext e11
    replace y1 := e11 _ _ y1
    replace x2 := x2.ext e11
    replace y2 := e11 _ _ y2
    replace x3 := x3.ext e11
    replace y3 := e11 _ _ y3
    replace x4 := x4.ext e11
    replace y4 := e11 _ _ y4
    replace x5 := x5.ext e11
    replace y5 := e11 _ _ y5
    replace x6 := x6.ext e11
    replace y6 := e11 _ _ y6
    replace x7 := x7.ext e11
    replace y7 := e11 _ _ y7
    replace x8 := x8.ext e11
    replace y8 := e11 _ _ y8
    replace x9 := x9.ext e11
    replace y9 := e11 _ _ y9
    replace z2 := e11 _ _ z2
    replace x10 := x10.ext e11
    replace y10 := e11 _ _ y10
    replace S := same_trans S e11
    walk_at "hgo"
    intro t11 m11
    have r11 := same_new (o := .tup [V.int 11, .ref a11]) m11
    have y11 : upd H11_ t11 (.tup [V.int 11, .ref a11]) t11 = some (.tup [V.int 11, .ref a11]) := upd_same
    generalize upd H11_ t11 (.tup [V.int 11, .ref a11]) = G11 at r11 y11 ⊢
    replace x1 := x1.ext r11
    replace y1 := r11 _ _ y1
    replace x2 := x2.ext r11
    replace y2 := r11 _ _ y2
    replace x3 := x3.ext r11
    replace y3 := r11 _ _ y3
    replace x4 := x4.ext r11
    replace y4 := r11 _ _ y4
    replace x5 := x5.ext r11
    replace y5 := r11 _ _ y5
    replace x6 := x6.ext r11
    replace y6 := r11 _ _ y6
    replace x7 := x7.ext r11
    replace y7 := r11 _ _ y7
    replace x8 := x8.ext r11
    replace y8 := r11 _ _ y8
    replace x9 := x9.ext r11
    replace y9 := r11 _ _ y9
    replace z2 := r11 _ _ z2
    replace x10 := x10.ext r11
    replace y10 := r11 _ _ y10
    replace x11 := x11.ext r11
    replace S := same_trans S r11
    walk_at "hgo"
    intro p3 q3
    have s3 := same_new (o := .lst [.ref t10, .ref t11]) q3
    have l3 : upd G11 p3 (.lst [.ref t10, .ref t11]) p3 = some (.lst [.ref t10, .ref t11]) := upd_same
    generalize upd G11 p3 (.lst [.ref t10, .ref t11]) = D3 at s3 l3 ⊢
    replace x1 := x1.ext s3
    replace y1 := s3 _ _ y1
    replace x2 := x2.ext s3
    replace y2 := s3 _ _ y2
    replace x3 := x3.ext s3
    replace y3 := s3 _ _ y3
    replace x4 := x4.ext s3
    replace y4 := s3 _ _ y4
    replace x5 := x5.ext s3
    replace y5 := s3 _ _ y5
    replace x6 := x6.ext s3
    replace y6 := s3 _ _ y6
    replace x7 := x7.ext s3
    replace y7 := s3 _ _ y7
    replace x8 := x8.ext s3
    replace y8 := s3 _ _ y8
    replace x9 := x9.ext s3
    replace y9 := s3 _ _ y9
    replace z2 := s3 _ _ z2
    replace x10 := x10.ext s3
    replace y10 := s3 _ _ y10
    replace x11 := x11.ext s3
    replace y11 := s3 _ _ y11
    replace S := same_trans S s3
    walk_at "hgo"
    refine g_catW (ws := [.ref t1, .ref t2, .ref t3, .ref t4, .ref t5, .ref t6, .ref t7, .ref t8, .ref t9, .ref t10, .ref t11]) z2 l3 (by simp only [List.cons_append, List.nil_append]) (small_of (by simp)) ?_
    intro b3 v3
    have u3 := same_new (o := .lst [.ref t1, .ref t2, .ref t3, .ref t4, .ref t5, .ref t6, .ref t7, .ref t8, .ref t9, .ref t10, .ref t11]) v3
    have z3 : upd D3 b3 (.lst [.ref t1, .ref t2, .ref t3, .ref t4, .ref t5, .ref t6, .ref t7, .ref t8, .ref t9, .ref t10, .ref t11]) b3 = some (.lst [.ref t1, .ref t2, .ref t3, .ref t4, .ref t5, .ref t6, .ref t7, .ref t8, .ref t9, .ref t10, .ref t11]) := upd_same
    generalize upd D3 b3 (.lst [.ref t1, .ref t2, .ref t3, .ref t4, .ref t5, .ref t6, .ref t7, .ref t8, .ref t9, .ref t10, .ref t11]) = B3 at u3 z3 ⊢
    replace x1 := x1.ext u3
    replace y1 := u3 _ _ y1
    replace x2 := x2.ext u3
    replace y2 := u3 _ _ y2
    replace x3 := x3.ext u3
    replace y3 := u3 _ _ y3
    replace x4 := x4.ext u3
    replace y4 := u3 _ _ y4
    replace x5 := x5.ext u3
    replace y5 := u3 _ _ y5
    replace x6 := x6.ext u3
    replace y6 := u3 _ _ y6
    replace x7 := x7.ext u3
    replace y7 := u3 _ _ y7
    replace x8 := x8.ext u3
    replace y8 := u3 _ _ y8
    replace x9 := x9.ext u3
    replace y9 := u3 _ _ y9
    replace x10 := x10.ext u3
    replace y10 := u3 _ _ y10
    replace x11 := x11.ext u3
    replace y11 := u3 _ _ y11
    replace S := same_trans S u3
    walk_at "hgo"
    refine ⟨fl12, ?_⟩
    intro a12 H12_ n12 e12 x12
    replace x1 := x1.ext e12
    replace y1 := e12 _ _ y1
    replace x2 := x2.ext e12
    replace y2 := e12 _ _ y2
    replace x3 := x3.ext e12
    replace y3 := e12 _ _ y3
    replace x4 := x4.ext e12
    replace y4 := e12 _ _ y4
    replace x5 := x5.ext e12
    replace y5 := e12 _ _ y5
    replace x6 := x6.ext e12
    replace y6 := e12 _ _ y6
    replace x7 := x7.ext e12
    replace y7 := e12 _ _ y7
    replace x8 := x8.ext e12
    replace y8 := e12 _ _ y8
    replace x9 := x9.ext e12
    replace y9 := e12 _ _ y9
    replace x10 := x10.ext e12
    replace y10 := e12 _ _ y10
    replace x11 := x11.ext e12
    replace y11 := e12 _ _ y11
    replace z3 := e12 _ _ z3
    replace S := same_trans S e12
    walk_at "hgo"
    intro t12 m12
    have r12 := same_new (o := .tup [V.int 12, .ref a12]) m12
    have y12 : upd H12_ t12 (.tup [V.int 12, .ref a12]) t12 = some (.tup [V.int 12, .ref a12]) := upd_same
    generalize upd H12_ t12 (.tup [V.int 12, .ref a12]) = G12 at r12 y12 ⊢
    replace x1 := x1.ext r12
    replace y1 := r12 _ _ y1
    replace x2 := x2.ext r12
    replace y2 := r12 _ _ y2
    replace x3 := x3.ext r12
    replace y3 := r12 _ _ y3
    replace x4 := x4.ext r12
    replace y4 := r12 _ _ y4
    replace x5 := x5.ext r12
    replace y5 := r12 _ _ y5
    replace x6 := x6.ext r12
    replace y6 := r12 _ _ y6
    replace x7 := x7.ext r12
    replace y7 := r12 _ _ y7
    replace x8 := x8.ext r12
    replace y8 := r12 _ _ y8
    replace x9 := x9.ext r12
    replace y9 := r12 _ _ y9
    replace x10 := x10.ext r12
    replace y10 := r12 _ _ y10
    replace x11 := x11.ext r12
    replace y11 := r12 _ _ y11
    replace z3 := r12 _ _ z3
    replace x12 := x12.ext r12
    replace S := same_trans S r12
    walk_at "hgo"
    refine ⟨fl13, ?_⟩
    intro a13 H13_ n13 e13 x13
    replace x1 := x1.ext e13
    replace y1 := e13 _ _ y1
    replace x2 := x2.ext e13
    replace y2 := e13 _ _ y2
    replace x3 := x3.ext e13
    replace y3 := e13 _ _ y3
    replace x4 := x4.ext e13
    replace y4 := e13 _ _ y4
    replace x5 := x5.ext e13
    replace y5 := e13 _ _ y5
    replace x6 := x6.ext e13
    replace y6 := e13 _ _ y6
    replace x7 := x7.ext e13
    replace y7 := e13 _ _ y7
    replace x8 := x8.ext e13
    replace y8 := e13 _ _ y8
    replace x9 := x9.ext e13
    replace y9 := e13 _ _ y9
    replace x10 := x10.ext e13
    replace y10 := e13 _ _ y10
    replace x11 := x11.ext e13
    replace y11 := e13 _ _ y11
    replace z3 := e13 _ _ z3
    replace x12 := x12.ext e13
    replace y12 := e13 _ _ y12
    replace S := same_trans S e13
    walk_at "hgo"
    intro t13 m13
    have r13 := same_new (o := .tup [V.int 13, .ref a13]) m13
    have y13 : upd H13_ t13 (.tup [V.int 13, .ref a13]) t13 = some (.tup [V.int 13, .ref a13]) := upd_same
    generalize upd H13_ t13 (.tup [V.int 13, .ref a13]) = G13 at r13 y13 ⊢
    replace x1 := x1.ext r13
    replace y1 := r13 _ _ y1
    replace x2 := x2.ext r13
    replace y2 := r13 _ _ y2
    replace x3 := x3.ext r13
    replace y3 := r13 _ _ y3
    replace x4 := x4.ext r13
    replace y4 := r13 _ _ y4
    replace x5 := x5.ext r13
    replace y5 := r13 _ _ y5
    replace x6 := x6.ext r13
    replace y6 := r13 _ _ y6
    replace x7 := x7.ext r13
    replace y7 := r13 _ _ y7
    replace x8 := x8.ext r13
    replace y8 := r13 _ _ y8
    replace x9 := x9.ext r13
    replace y9 := r13 _ _ y9
    replace x10 := x10.ext r13
    replace y10 := r13 _ _ y10
    replace x11 := x11.ext r13
    replace y11 := r13 _ _ y11
    replace z3 := r13 _ _ z3
    replace x12 := x12.ext r13
    replace y12 := r13 _ _ y12
    replace x13 := x13.ext r13
    replace S := same_trans S r13
    walk_at "hgo"
    refine ⟨fl14, ?_⟩
    intro a14 H14_ n14 e14 x14
    replace x1 := x1.ext e14
    replace y1 := e14 _ _ y1
    replace x2 := x2.ext e14
    replace y2 := e14 _ _ y2
    replace x3 := x3.ext e14
    replace y3 := e14 _ _ y3
    replace x4 := x4.ext e14
    replace y4 := e14 _ _ y4
    replace x5 := x5.ext e14
    replace y5 := e14 _ _ y5
    replace x6 := x6.ext e14
    replace y6 := e14 _ _ y6
    replace x7 := x7.ext e14
    replace y7 := e14 _ _ y7
    replace x8 := x8.ext e14
    replace y8 := e14 _ _ y8
    replace x9 := x9.ext e14
    replace y9 := e14 _ _ y9
    replace x10 := x10.ext e14
    replace y10 := e14 _ _ y10
    replace x11 := x11.ext e14
    replace y11 := e14 _ _ y11
    replace z3 := e14 _ _ z3
    replace x12 := x12.ext e14
    replace y12 := e14 _ _ y12
    replace x13 := x13.ext e14
    replace y13 := e14 _ _ y13
    replace S := same_trans S e14
    walk_at "hgo"
    intro t14 m14
    have r14 := same_new (o := .tup [V.int 14, .ref a14]) m14
    have y14 : upd H14_ t14 (.tup [V.int 14, .ref a14]) t14 = some (.tup [V.int 14, .ref a14]) := upd_same
    generalize upd H14_ t14 (.tup [V.int 14, .ref a14]) = G14 at r14 y14 ⊢
    replace x1 := x1.ext r14
    replace y1 := r14 _ _ y1
    replace x2 := x2.ext r14
    replace y2 := r14 _ _ y2
    replace x3 := x3.ext r14
    replace y3 := r14 _ _ y3
    replace x4 := x4.ext r14
    replace y4 := r14 _ _ y4
    replace x5 := x5.ext r14
    replace y5 := r14 _ _ y5
    replace x6 := x6.ext r14
    replace y6 := r14 _ _ y6
    replace x7 := x7.ext r14
    replace y7 := r14 _ _ y7
    replace x8 := x8.ext r14
    replace y8 := r14 _ _ y8
    replace x9 := x9.ext r14
    replace y9 := r14 _ _ y9
    replace x10 := x10.ext r14
    replace y10 := r14 _ _ y10
    replace x11 := x11.ext r14
    replace y11 := r14 _ _ y11
    replace z3 := r14 _ _ z3
    replace x12 := x12.ext r14
    replace y12 := r14 _ _ y12
    replace x13 := x13.ext r14
    replace y13 := r14 _ _ y13
    replace x14 := x14.ext r14
    replace S := same_trans S r14
    walk_at "hgo"
    intro p4 q4
    have s4 := same_new (o := .lst [.ref t12, .ref t13, .ref t14]) q4
    have l4 : upd G14 p4 (.lst [.ref t12, .ref t13, .ref t14]) p4 = some (.lst [.ref t12, .ref t13, .ref t14]) := upd_same
    generalize upd G14 p4 (.lst [.ref t12, .ref t13, .ref t14]) = D4 at s4 l4 ⊢
    replace x1 := x1.ext s4
    replace y1 := s4 _ _ y1
    replace x2 := x2.ext s4
    replace y2 := s4 _ _ y2
    replace x3 := x3.ext s4
    replace y3 := s4 _ _ y3
    replace x4 := x4.ext s4
    replace y4 := s4 _ _ y4
    replace x5 := x5.ext s4
    replace y5 := s4 _ _ y5
    replace x6 := x6.ext s4
    replace y6 := s4 _ _ y6
    replace x7 := x7.ext s4
    replace y7 := s4 _ _ y7
    replace x8 := x8.ext s4
    replace y8 := s4 _ _ y8
    replace x9 := x9.ext s4
    replace y9 := s4 _ _ y9
    replace x10 := x10.ext s4
    replace y10 := s4 _ _ y10
    replace x11 := x11.ext s4
    replace y11 := s4 _ _ y11
    replace z3 := s4 _ _ z3
    replace x12 := x12.ext s4
    replace y12 := s4 _ _ y12
    replace x13 := x13.ext s4
    replace y13 := s4 _ _ y13
    replace x14 := x14.ext s4
    replace y14 := s4 _ _ y14
    replace S := same_trans S s4
    walk_at "hgo"
    refine g_catW (ws := [.ref t1, .ref t2, .ref t3, .ref t4, .ref t5, .ref t6, .ref t7, .ref t8, .ref t9, .ref t10, .ref t11, .ref t12, .ref t13, .ref t14]) z3 l4 (by simp only [List.cons_append, List.nil_append]) (small_of (by simp)) ?_
    intro b4 v4
    have u4 := same_new (o := .lst [.ref t1, .ref t2, .ref t3, .ref t4, .ref t5, .ref t6, .ref t7, .ref t8, .ref t9, .ref t10, .ref t11, .ref t12, .ref t13, .ref t14]) v4
    have z4 : upd D4 b4 (.lst [.ref t1, .ref t2, .ref t3, .ref t4, .ref t5, .ref t6, .ref t7, .ref t8, .ref t9, .ref t10, .ref t11, .ref t12, .ref t13, .ref t14]) b4 = some (.lst [.ref t1, .ref t2, .ref t3, .ref t4, .ref t5, .ref t6, .ref t7, .ref t8, .ref t9, .ref t10, .ref t11, .ref t12, .ref t13, .ref t14]) := upd_same
    generalize upd D4 b4 (.lst [.ref t1, .ref t2, .ref t3, .ref t4, .ref t5, .ref t6, .ref t7, .ref t8, .ref t9, .ref t10, .ref t11, .ref t12, .ref t13, .ref t14]) = B4 at u4 z4 ⊢
    replace x1 := x1.ext u4
    replace y1 := u4 _ _ y1
    replace x2 := x2.ext u4
    replace y2 := u4 _ _ y2
    replace x3 := x3.ext u4
    replace y3 := u4 _ _ y3
    replace x4 := x4.ext u4
    replace y4 := u4 _ _ y4
    replace x5 := x5.ext u4
    replace y5 := u4 _ _ y5
    replace x6 := x6.ext u4
    replace y6 := u4 _ _ y6
    replace x7 := x7.ext u4
    replace y7 := u4 _ _ y7
    replace x8 := x8.ext u4
    replace y8 := u4 _ _ y8
    replace x9 := x9.ext u4
    replace y9 := u4 _ _ y9
    replace x10 := x10.ext u4
    replace y10 := u4 _ _ y10
    replace x11 := x11.ext u4
    replace y11 := u4 _ _ y11
    replace x12 := x12.ext u4
    replace y12 := u4 _ _ y12
    replace x13 := x13.ext u4
    replace y13 := u4 _ _ y13
    replace x14 := x14.ext u4
    replace y14 := u4 _ _ y14
    replace S := same_trans S u4
    walk_at "hgo"
    refine ⟨fl15, ?_⟩
    intro a15 H15_ n15 e15 x15
    replace x1 := x1.ext e15
    replace y1 := e15 _ _ y1
    replace x2 := x2.ext e15
    replace y2 := e15 _ _ y2
    replace x3 := x3.ext e15
    replace y3 := e15 _ _ y3
    replace x4 := x4.ext e15
    replace y4 := e15 _ _ y4
    replace x5 := x5.ext e15
    replace y5 := e15 _ _ y5
    replace x6 := x6.ext e15
    replace y6 := e15 _ _ y6
    replace x7 := x7.ext e15
    replace y7 := e15 _ _ y7
    replace x8 := x8.ext e15
    replace y8 := e15 _ _ y8
    replace x9 := x9.ext e15
    replace y9 := e15 _ _ y9
    replace x10 := x10.ext e15
    replace y10 := e15 _ _ y10
    replace x11 := x11.ext e15
    replace y11 := e15 _ _ y11
    replace x12 := x12.ext e15
    replace y12 := e15 _ _ y12
    replace x13 := x13.ext e15
    replace y13 := e15 _ _ y13
    replace x14 := x14.ext e15
    replace y14 := e15 _ _ y14
    replace z4 := e15 _ _ z4
    replace S := same_trans S e15
    walk_at "hgo"
    intro t15 m15
    have r15 := same_new (o := .tup [V.int 15, .ref a15]) m15
    have y15 : upd H15_ t15 (.tup [V.int 15, .ref a15]) t15 = some (.tup [V.int 15, .ref a15]) := upd_same
    generalize upd H15_ t15 (.tup [V.int 15, .ref a15]) = G15 at r15 y15 ⊢
    replace x1 := x1.ext r15
    replace y1 := r15 _ _ y1
    replace x2 := x2.ext r15
    replace y2 := r15 _ _ y2
    replace x3 := x3.ext r15
    replace y3 := r15 _ _ y3
    replace x4 := x4.ext r15
    replace y4 := r15 _ _ y4
    replace x5 := x5.ext r15
    replace y5 := r15 _ _ y5
    replace x6 := x6.ext r15
    replace y6 := r15 _ _ y6
    replace x7 := x7.ext r15
    replace y7 := r15 _ _ y7
    replace x8 := x8.ext r15
    replace y8 := r15 _ _ y8
    replace x9 := x9.ext r15
    replace y9 := r15 _ _ y9
    replace x10 := x10.ext r15
    replace y10 := r15 _ _ y10
    replace x11 := x11.ext r15
    replace y11 := r15 _ _ y11
    replace x12 := x12.ext r15
    replace y12 := r15 _ _ y12
    replace x13 := x13.ext r15
    replace y13 := r15 _ _ y13
    replace x14 := x14.ext r15
    replace y14 := r15 _ _ y14
    replace z4 := r15 _ _ z4
    replace x15 := x15.ext r15
    replace S := same_trans S r15
    walk_at "hgo"
    refine ⟨fl16, ?_⟩
    intro a16 H16_ n16 e16 x16
    replace x1 := x1.ext e16
    replace y1 := e16 _ _ y1
    replace x2 := x2.ext e16
    replace y2 := e16 _ _ y2
    replace x3 := x3.ext e16
    replace y3 := e16 _ _ y3
    replace x4 := x4.ext e16
    replace y4 := e16 _ _ y4
    replace x5 := x5.ext e16
    replace y5 := e16 _ _ y5
    replace x6 := x6.ext e16
    replace y6 := e16 _ _ y6
    replace x7 := x7.ext e16
    replace y7 := e16 _ _ y7
    replace x8 := x8.ext e16
    replace y8 := e16 _ _ y8
    replace x9 := x9.ext e16
    replace y9 := e16 _ _ y9
    replace x10 := x10.ext e16
    replace y10 := e16 _ _ y10
    replace x11 := x11.ext e16
    replace y11 := e16 _ _ y11
    replace x12 := x12.ext e16
    replace y12 := e16 _ _ y12
    replace x13 := x13.ext e16
    replace y13 := e16 _ _ y13
    replace x14 := x14.ext e16
    replace y14 := e16 _ _ y14
    replace z4 := e16 _ _ z4
    replace x15 := x15.ext e16
    replace y15 := e16 _ _ y15
    replace S := same_trans S e16
    walk_at "hgo"
    intro t16 m16
    have r16 := same_new (o := .tup [V.int 16, .ref a16]) m16
    have y16 : upd H16_ t16 (.tup [V.int 16, .ref a16]) t16 = some (.tup [V.int 16, .ref a16]) := upd_same
    generalize upd H16_ t16 (.tup [V.int 16, .ref a16]) = G16 at r16 y16 ⊢
    replace x1 := x1.ext r16
    replace y1 := r16 _ _ y1
    replace x2 := x2.ext r16
    replace y2 := r16 _ _ y2
    replace x3 := x3.ext r16
    replace y3 := r16 _ _ y3
    replace x4 := x4.ext r16
    replace y4 := r16 _ _ y4
    replace x5 := x5.ext r16
    replace y5 := r16 _ _ y5
    replace x6 := x6.ext r16
    replace y6 := r16 _ _ y6
    replace x7 := x7.ext r16
    replace y7 := r16 _ _ y7
    replace x8 := x8.ext r16
    replace y8 := r16 _ _ y8
    replace x9 := x9.ext r16
    replace y9 := r16 _ _ y9
    replace x10 := x10.ext r16
    replace y10 := r16 _ _ y10
    replace x11 := x11.ext r16
    replace y11 := r16 _ _ y11
    replace x12 := x12.ext r16
    replace y12 := r16 _ _ y12
    replace x13 := x13.ext r16
    replace y13 := r16 _ _ y13
    replace x14 := x14.ext r16
    replace y14 := r16 _ _ y14
    replace z4 := r16 _ _ z4
    replace x15 := x15.ext r16
    replace y15 := r16 _ _ y15
    replace x16 := x16.ext r16
    replace S := same_trans S r16
    walk_at "hgo"
    intro p5 q5
    have s5 := same_new (o := .lst [.ref t15, .ref t16]) q5
    have l5 : upd G16 p5 (.lst [.ref t15, .ref t16]) p5 = some (.lst [.ref t15, .ref t16]) := upd_same
    generalize upd G16 p5 (.lst [.ref t15, .ref t16]) = D5 at s5 l5 ⊢
    replace x1 := x1.ext s5
    replace y1 := s5 _ _ y1
    replace x2 := x2.ext s5
    replace y2 := s5 _ _ y2
    replace x3 := x3.ext s5
    replace y3 := s5 _ _ y3
    replace x4 := x4.ext s5
    replace y4 := s5 _ _ y4
    replace x5 := x5.ext s5
    replace y5 := s5 _ _ y5
    replace x6 := x6.ext s5
    replace y6 := s5 _ _ y6
    replace x7 := x7.ext s5
    replace y7 := s5 _ _ y7
    replace x8 := x8.ext s5
    replace y8 := s5 _ _ y8
    replace x9 := x9.ext s5
    replace y9 := s5 _ _ y9
    replace x10 := x10.ext s5
    replace y10 := s5 _ _ y10
    replace x11 := x11.ext s5
    replace y11 := s5 _ _ y11
    replace x12 := x12.ext s5
    replace y12 := s5 _ _ y12
    replace x13 := x13.ext s5
    replace y13 := s5 _ _ y13
    replace x14 := x14.ext s5
    replace y14 := s5 _ _ y14
    replace z4 := s5 _ _ z4
    replace x15 := x15.ext s5
    replace y15 := s5 _ _ y15
    replace x16 := x16.ext s5
    replace y16 := s5 _ _ y16
    replace S := same_trans S s5
    walk_at "hgo"
    refine g_catW (ws := [.ref t1, .ref t2, .ref t3, .ref t4, .ref t5, .ref t6, .ref t7, .ref t8, .ref t9, .ref t10, .ref t11, .ref t12, .ref t13, .ref t14, .ref t15, .ref t16]) z4 l5 (by simp only [List.cons_append, List.nil_append]) (small_of (by simp)) ?_
    intro b5 v5
    have u5 := same_new (o := .lst [.ref t1, .ref t2, .ref t3, .ref t4, .ref t5, .ref t6, .ref t7, .ref t8, .ref t9, .ref t10, .ref t11, .ref t12, .ref t13, .ref t14, .ref t15, .ref t16]) v5
    have z5 : upd D5 b5 (.lst [.ref t1, .ref t2, .ref t3, .ref t4, .ref t5, .ref t6, .ref t7, .ref t8, .ref t9, .ref t10, .ref t11, .ref t12, .ref t13, .ref t14, .ref t15, .ref t16]) b5 = some (.lst [.ref t1, .ref t2, .ref t3, .ref t4, .ref t5, .ref t6, .ref t7, .ref t8, .ref t9, .ref t10, .ref t11, .ref t12, .ref t13, .ref t14, .ref t15, .ref t16]) := upd_same
    generalize upd D5 b5 (.lst [.ref t1, .ref t2, .ref t3, .ref t4, .ref t5, .ref t6, .ref t7, .ref t8, .ref t9, .ref t10, .ref t11, .ref t12, .ref t13, .ref t14, .ref t15, .ref t16]) = B5 at u5 z5 ⊢
    replace x1 := x1.ext u5
    replace y1 := u5 _ _ y1
    replace x2 := x2.ext u5
    replace y2 := u5 _ _ y2
    replace x3 := x3.ext u5
    replace y3 := u5 _ _ y3
    replace x4 := x4.ext u5
    replace y4 := u5 _ _ y4
    replace x5 := x5.ext u5
    replace y5 := u5 _ _ y5
    replace x6 := x6.ext u5
    replace y6 := u5 _ _ y6
    replace x7 := x7.ext u5
    replace y7 := u5 _ _ y7
    replace x8 := x8.ext u5
    replace y8 := u5 _ _ y8
    replace x9 := x9.ext u5
    replace y9 := u5 _ _ y9
    replace x10 := x10.ext u5
    replace y10 := u5 _ _ y10
    replace x11 := x11.ext u5
    replace y11 := u5 _ _ y11
    replace x12 := x12.ext u5
    replace y12 := u5 _ _ y12
    replace x13 := x13.ext u5
    replace y13 := u5 _ _ y13
    replace x14 := x14.ext u5
    replace y14 := u5 _ _ y14
    replace x15 := x15.ext u5
    replace y15 := u5 _ _ y15
    replace x16 := x16.ext u5
    replace y16 := u5 _ _ y16
    replace S := same_trans S u5
    walk_at "hgo"
    refine k _ [t1, t2, t3, t4, t5, t6, t7, t8, t9, t10, t11, t12, t13, t14, t15, t16] _ S z5 rfl ?_
    intro j hj
    have jj : j = 0 ∨ j = 1 ∨ j = 2 ∨ j = 3 ∨ j = 4 ∨ j = 5 ∨ j = 6 ∨ j = 7 ∨ j = 8 ∨ j = 9 ∨ j = 10 ∨ j = 11 ∨ j = 12 ∨ j = 13 ∨ j = 14 ∨ j = 15 := by omega
    rcases jj with rfl | rfl | rfl | rfl | rfl | rfl | rfl | rfl | rfl | rfl | rfl | rfl | rfl | rfl | rfl | rfl
    · show ∃ t a, _ ∧ _ = some (HO.tup [.int 1, _]) ∧ IsE (c 1) (FF (fld 1) (vals 1 x y)) a _
      rw [vl1]
      exact ⟨t1, a1, by simp, y1, x1⟩
    · show ∃ t a, _ ∧ _ = some (HO.tup [.int 2, _]) ∧ IsE (c 2) (FF (fld 2) (vals 2 x y)) a _
      rw [vl2]
      exact ⟨t2, a2, by simp, y2, x2⟩
    · show ∃ t a, _ ∧ _ = some (HO.tup [.int 3, _]) ∧ IsE (c 3) (FF (fld 3) (vals 3 x y)) a _
      rw [vl3]
      exact ⟨t3, a3, by simp, y3, x3⟩
    · show ∃ t a, _ ∧ _ = some (HO.tup [.int 4, _]) ∧ IsE (c 4) (FF (fld 4) (vals 4 x y)) a _
      rw [vl4]
      exact ⟨t4, a4, by simp, y4, x4⟩
    · show ∃ t a, _ ∧ _ = some (HO.tup [.int 5, _]) ∧ IsE (c 5) (FF (fld 5) (vals 5 x y)) a _
      rw [vl5]
      exact ⟨t5, a5, by simp, y5, x5⟩
    · show ∃ t a, _ ∧ _ = some (HO.tup [.int 6, _]) ∧ IsE (c 6) (FF (fld 6) (vals 6 x y)) a _
      rw [vl6]
      exact ⟨t6, a6, by simp, y6, x6⟩
    · show ∃ t a, _ ∧ _ = some (HO.tup [.int 7, _]) ∧ IsE (c 7) (FF (fld 7) (vals 7 x y)) a _
      rw [vl7]
      exact ⟨t7, a7, by simp, y7, x7⟩
    · show ∃ t a, _ ∧ _ = some (HO.tup [.int 8, _]) ∧ IsE (c 8) (FF (fld 8) (vals 8 x y)) a _
      rw [vl8]
      exact ⟨t8, a8, by simp, y8, x8⟩
    · show ∃ t a, _ ∧ _ = some (HO.tup [.int 9, _]) ∧ IsE (c 9) (FF (fld 9) (vals 9 x y)) a _
      rw [vl9]
      exact ⟨t9, a9, by simp, y9, x9⟩
    · show ∃ t a, _ ∧ _ = some (HO.tup [.int 10, _]) ∧ IsE (c 10) (FF (fld 10) (vals 10 x y)) a _
      rw [vl10]
      exact ⟨t10, a10, by simp, y10, x10⟩
    · show ∃ t a, _ ∧ _ = some (HO.tup [.int 11, _]) ∧ IsE (c 11) (FF (fld 11) (vals 11 x y)) a _
      rw [vl11]
      exact ⟨t11, a11, by simp, y11, x11⟩
    · show ∃ t a, _ ∧ _ = some (HO.tup [.int 12, _]) ∧ IsE (c 12) (FF (fld 12) (vals 12 x y)) a _
      rw [vl12]
      exact ⟨t12, a12, by simp, y12, x12⟩
    · show ∃ t a, _ ∧ _ = some (HO.tup [.int 13, _]) ∧ IsE (c 13) (FF (fld 13) (vals 13 x y)) a _
      rw [vl13]
      exact ⟨t13, a13, by simp, y13, x13⟩
    · show ∃ t a, _ ∧ _ = some (HO.tup [.int 14, _]) ∧ IsE (c 14) (FF (fld 14) (vals 14 x y)) a _
      rw [vl14]
      exact ⟨t14, a14, by simp, y14, x14⟩
    · show ∃ t a, _ ∧ _ = some (HO.tup [.int 15, _]) ∧ IsE (c 15) (FF (fld 15) (vals 15 x y)) a _
      rw [vl15]
      exact ⟨t15, a15, by simp, y15, x15⟩
    · show ∃ t a, _ ∧ _ = some (HO.tup [.int 16, _]) ∧ IsE (c 16) (FF (fld 16) (vals 16 x y)) a _
      rw [vl16]
      exact ⟨t16, a16, by simp, y16, x16⟩
end

/-- H without the address q -/
def rm (H : Hp) (q : Addr) : Hp := fun a => if a = q then none else H a
theorem rm_same (H : Hp) (q : Addr) : Same (rm H q) H := fun a o h => by
  by_cases e : a = q
  · unfold rm at h
    rw [if_pos e] at h
    cases h
  · unfold rm at h
    rw [if_neg e] at h
    exact h
theorem rm_at {H : Hp} {q a : Addr} {o : HO} (n : a ≠ q) (h : H a = some o) : rm H q a = some o := by
  unfold rm
  rw [if_neg n]
  exact h
theorem rm_but {H H' : Hp} {q : Addr} (b : But q H H') : Same (rm H q) (rm H' q) := fun a o h => by
  by_cases e : a = q
  · unfold rm at h
    rw [if_pos e] at h
    cases h
  · refine rm_at e (b.st a o e ?_)
    unfold rm at h
    rw [if_neg e] at h
    exact h
structure Fit (d : PyData) : Prop where
  show' : d.showable = true
  dep : d.depth ≤ 10
  len : d.shown.length ≤ 1000
def spThing : Sp := fun vs H Q _ => ∃ (q : Addr) (b : Nat), vs = [.ref q] ∧ Pen H q b ∧ b ≤ 90000 ∧ ∀ (v : V) (H' : Hp) (d : PyData), Dx (rm H' q) v d → Fit d → Pen H' q (b + 1) → But q H H' → Q v H'
structure TxtT (mg : Str → Option Value) : Prop where
  len : mg "len" = none
section
variable {P : Program} {w : World} {K : PySem.W.Frag} {mg : Str → Option Value} {base : Heap}
variable {f_law_draw f_law_pick : Addr} {fd_law_draw fd_law_pick : FuncData}
theorem ok_law_thing {f : Addr} {fd : FuncData} (F : Fun K "_law_thing" "_law_thing" s_law_thing f fd) (TD : TxtD mg) (T : TxtP mg)
    (F_law_draw : Fun K "_law_draw" "_law_draw" s_law_draw f_law_draw fd_law_draw) (b_law_draw : Binds K fd_law_draw ["_law_pen_here", "_law_many"] []) (g_law_draw : mg "_law_draw" = some (.ref f_law_draw))
    (F_law_pick : Fun K "_law_pick" "_law_pick" s_law_pick f_law_pick fd_law_pick) (b_law_pick : Binds K fd_law_pick ["_law_pen_here", "_law_some"] []) (g_law_pick : mg "_law_pick" = some (.ref f_law_pick)) :
    FnOk P w K mg base CX0 3 f fd ["_law_pen_here"] spThing := by
  have G_law_pick : FnOk P w K mg base CX0 2 f_law_pick fd_law_pick ["_law_pen_here", "_law_some"] spPick := ok_law_pick F_law_pick TD T F_law_draw b_law_draw g_law_draw
  refine F.ok sc_law_thing (fun vs H Q E h => ?_) (fun cdv A outer s H vs Q E hr h => ?_)
  · obtain ⟨q, b, rfl, _⟩ := h
    rfl
  · obtain ⟨q, b, rfl, hP, hb, k⟩ := h
    refine ⟨_, (pss_cons (ps_set (i := 1) sc_law_thing.nd rfl (Or.inl rfl) (pe_lstX (pa_cons pe_non (pa_cons pe_bl (pa_cons pe_bl (pa_cons pe_int (pa_cons pe_int (pa_cons (pe_un un_neg pe_int) (pa_cons (pe_op op_sub (pe_op op_pow pe_int pe_int) pe_int) (pa_cons pe_str (pa_cons pe_str (pa_cons pe_str (pa_cons (pe_tup pa_nil) (pa_cons (pe_tup (pa_cons pe_str (pa_cons pe_int pa_nil))) (pa_cons (pe_lstX pa_nil) (pa_cons (pe_lstX (pa_cons pe_int (pa_cons pe_int pa_nil))) (pa_cons pe_dnewK (pa_cons (pe_disp (pps_cons pe_str pe_int pps_nil) (by rfl) (by rfl) (fun z => by cases z) (by decide)) pa_nil))))))))))))))))))
      (pss_one (ps_ret (pe_call G_law_pick (hr.mono (by decide)) (by rfl) g_law_pick F_law_pick.kp b_law_pick .nil pass0 (pa_cons (pv 0) (pa_cons (pv 1) pa_nil)))))), ?_⟩
    try dsimp only [cxOf]
    have hu := hu_of hr
    have S : Same H H := fun _ _ e => e
    walk_at "hgo"
    intro p1 n1
    have m1 : p1 ≠ q := hP.ne n1
    have Q1 := hP.new (o := .tup []) n1
    have s1 := same_new (o := .tup []) n1
    have l1 : upd H p1 (.tup []) p1 = some (.tup []) := upd_same
    generalize upd H p1 (.tup []) = H1 at Q1 s1 l1 ⊢
    replace S := same_trans S s1
    walk_at "hgo"
    intro p2 n2
    have m2 : p2 ≠ q := Q1.ne n2
    have Q2 := Q1.new (o := .tup [V.str (Str.ofString "a"), V.int 0]) n2
    have s2 := same_new (o := .tup [V.str (Str.ofString "a"), V.int 0]) n2
    have l2 : upd H1 p2 (.tup [V.str (Str.ofString "a"), V.int 0]) p2 = some (.tup [V.str (Str.ofString "a"), V.int 0]) := upd_same
    generalize upd H1 p2 (.tup [V.str (Str.ofString "a"), V.int 0]) = H2 at Q2 s2 l2 ⊢
    replace l1 := s2 _ _ l1
    replace S := same_trans S s2
    walk_at "hgo"
    intro p3 n3 z3
    have m3 : p3 ≠ q := Q2.ne n3
    have Q3 := Q2.new (o := .lst []) n3
    have s3 := same_new (o := .lst []) n3
    have l3 : upd H2 p3 (.lst []) p3 = some (.lst []) := upd_same
    generalize upd H2 p3 (.lst []) = H3 at Q3 s3 l3 ⊢
    replace l1 := s3 _ _ l1
    replace l2 := s3 _ _ l2
    replace S := same_trans S s3
    walk_at "hgo"
    intro p4 n4 z4
    have m4 : p4 ≠ q := Q3.ne n4
    have Q4 := Q3.new (o := .lst [V.int 0, V.int 1]) n4
    have s4 := same_new (o := .lst [V.int 0, V.int 1]) n4
    have l4 : upd H3 p4 (.lst [V.int 0, V.int 1]) p4 = some (.lst [V.int 0, V.int 1]) := upd_same
    generalize upd H3 p4 (.lst [V.int 0, V.int 1]) = H4 at Q4 s4 l4 ⊢
    replace l1 := s4 _ _ l1
    replace l2 := s4 _ _ l2
    replace l3 := s4 _ _ l3
    replace S := same_trans S s4
    walk_at "hgo"
    intro p5 n5
    have m5 : p5 ≠ q := Q4.ne n5
    have Q5 := Q4.new (o := .dK []) n5
    have s5 := same_new (o := .dK []) n5
    have l5 : upd H4 p5 (.dK []) p5 = some (.dK []) := upd_same
    generalize upd H4 p5 (.dK []) = H5 at Q5 s5 l5 ⊢
    replace l1 := s5 _ _ l1
    replace l2 := s5 _ _ l2
    replace l3 := s5 _ _ l3
    replace l4 := s5 _ _ l4
    replace S := same_trans S s5
    walk_at "hgo"
    intro p6 n6
    walk_at "hgo"
    refine g_pair1 (Sum.inr (Str.ofString "a")) rfl upd_same ?_
    walk_at "hx"
    rw [upd_upd]
    have m6 : p6 ≠ q := Q5.ne n6
    have Q6 := Q5.new (o := .dK (mergeK [] [(Sum.inr (Str.ofString "a"), V.int 1)])) n6
    have s6 := same_new (o := .dK (mergeK [] [(Sum.inr (Str.ofString "a"), V.int 1)])) n6
    have l6 : upd H5 p6 (.dK (mergeK [] [(Sum.inr (Str.ofString "a"), V.int 1)])) p6 = some (.dK (mergeK [] [(Sum.inr (Str.ofString "a"), V.int 1)])) := upd_same
    generalize upd H5 p6 (.dK (mergeK [] [(Sum.inr (Str.ofString "a"), V.int 1)])) = H6 at Q6 s6 l6 ⊢
    replace l1 := s6 _ _ l1
    replace l2 := s6 _ _ l2
    replace l3 := s6 _ _ l3
    replace l4 := s6 _ _ l4
    replace l5 := s6 _ _ l5
    replace S := same_trans S s6
    walk_at "hgo"
    intro p7 n7 z7
    have m7 : p7 ≠ q := Q6.ne n7
    have s7 := fun o => same_new (o := o) n7
    walk_at "hgo"
    refine ⟨q, p7, b, _, rfl, Q6.new n7, by omega, m7, upd_same, by simp, by simp, ?_⟩
    intro v H9 hv P9 t9
    have B6 : But q H H6 := .of S
    have B9 := (B6.new n7).trans t9
    have k1 := rm_at (H := H9) m1 (t9.st _ _ m1 (s7 _ _ _ l1))
    have k2 := rm_at (H := H9) m2 (t9.st _ _ m2 (s7 _ _ _ l2))
    have k3 := rm_at (H := H9) m3 (t9.st _ _ m3 (s7 _ _ _ l3))
    have k4 := rm_at (H := H9) m4 (t9.st _ _ m4 (s7 _ _ _ l4))
    have k5 := rm_at (H := H9) m5 (t9.st _ _ m5 (s7 _ _ _ l5))
    have k6 := rm_at (H := H9) m6 (t9.st _ _ m6 (s7 _ _ _ l6))
    walk_at "hgo"
    simp only [List.mem_cons, List.not_mem_nil, or_false] at hv
    rcases hv with rfl | rfl | rfl | rfl | rfl | rfl | rfl | rfl | rfl | rfl | rfl | rfl | rfl | rfl | rfl | rfl
    · exact k _ H9 .none .non ⟨by decide +kernel, by decide +kernel, by decide +kernel⟩ P9 B9
    · exact k _ H9 (.bool true) (.bl true) ⟨by decide +kernel, by decide +kernel, by decide +kernel⟩ P9 B9
    · exact k _ H9 (.bool false) (.bl false) ⟨by decide +kernel, by decide +kernel, by decide +kernel⟩ P9 B9
    · exact k _ H9 (.int _) (.int _) ⟨by decide +kernel, by decide +kernel, by decide +kernel⟩ P9 B9
    · exact k _ H9 (.int _) (.int _) ⟨by decide +kernel, by decide +kernel, by decide +kernel⟩ P9 B9
    · exact k _ H9 (.int _) (.int _) ⟨by decide +kernel, by decide +kernel, by decide +kernel⟩ P9 B9
    · exact k _ H9 (.int _) (.int _) ⟨by decide +kernel, by decide +kernel, by decide +kernel⟩ P9 B9
    · exact k _ H9 (.str _) (.str _) ⟨by decide +kernel, by decide +kernel, by decide +kernel⟩ P9 B9
    · exact k _ H9 (.str _) (.str _) ⟨by decide +kernel, by decide +kernel, by decide +kernel⟩ P9 B9
    · exact k _ H9 (.str _) (.str _) ⟨by decide +kernel, by decide +kernel, by decide +kernel⟩ P9 B9
    · exact k _ H9 (.tuple []) (.tup k1 .nil) ⟨by decide +kernel, by decide +kernel, by decide +kernel⟩ P9 B9
    · exact k _ H9 (.tuple [.str (Str.ofString "a"), .int 0]) (.tup k2 (.cons (.str _) (.cons (.int _) .nil))) ⟨by decide +kernel, by decide +kernel, by decide +kernel⟩ P9 B9
    · exact k _ H9 (.list []) (.lst k3 z3 .nil) ⟨by decide +kernel, by decide +kernel, by decide +kernel⟩ P9 B9
    · exact k _ H9 (.list [.int 0, .int 1]) (.lst k4 z4 (.cons (.int _) (.cons (.int _) .nil))) ⟨by decide +kernel, by decide +kernel, by decide +kernel⟩ P9 B9
    · exact k _ H9 (.dict []) (.dct k5 rfl .nil) ⟨by decide +kernel, by decide +kernel, by decide +kernel⟩ P9 B9
    · exact k _ H9 (.dict [(.str (Str.ofString "a"), .int 1)]) (.dct k6 rfl (.cons (.int _) .nil)) ⟨by decide +kernel, by decide +kernel, by decide +kernel⟩ P9 B9
end

theorem fd0 : fld 0 = ([] : List Str) := by decide +kernel
theorem fd1 : fld 1 = (["reason"] : List Str) := by decide +kernel
theorem fd2 : fld 2 = (["reason"] : List Str) := by decide +kernel
theorem fd3 : fld 3 = (["reason", "name"] : List Str) := by decide +kernel
theorem fd4 : fld 4 = (["reason"] : List Str) := by decide +kernel
theorem fd5 : fld 5 = (["reason"] : List Str) := by decide +kernel
theorem fd6 : fld 6 = (["reason"] : List Str) := by decide +kernel
theorem fd7 : fld 7 = (["index"] : List Str) := by decide +kernel
theorem fd8 : fld 8 = (["name"] : List Str) := by decide +kernel
theorem fd9 : fld 9 = (["name"] : List Str) := by decide +kernel
theorem fd10 : fld 10 = (["reason"] : List Str) := by decide +kernel
theorem fd11 : fld 11 = (["line", "word"] : List Str) := by decide +kernel
theorem fd12 : fld 12 = (["word"] : List Str) := by decide +kernel
theorem fd13 : fld 13 = (["name"] : List Str) := by decide +kernel
theorem fd14 : fld 14 = (["number"] : List Str) := by decide +kernel
theorem fd15 : fld 15 = (["limit"] : List Str) := by decide +kernel
theorem fd16 : fld 16 = (["count"] : List Str) := by decide +kernel
theorem look1 (f : Str) (y : V) : (FF [f] [y]).lookup f = some y := (lookup_put f f y []).trans (if_pos rfl)
theorem look2b (f g : Str) (y z : V) : (FF [f, g] [y, z]).lookup g = some z := (lookup_put g g z _).trans (if_pos rfl)
theorem look2a (f g : Str) (y z : V) (n : f ≠ g) : (FF [f, g] [y, z]).lookup f = some y := ((lookup_put g f z _).trans (if_neg n)).trans ((lookup_put f f y []).trans (if_pos rfl))
def spFields (c : Nat → Addr) : Sp := fun vs H Q _ => ∃ (i : Nat) (a : Addr) (ys : List V), vs = [.int (i : Int), .ref a] ∧ i < 17 ∧ IsE (c i) (FF (fld i) ys) a H ∧ ys.length = (fld i).length ∧ ∀ (p : Addr) (H' : Hp), Same H H' → p ≠ sysModules → H' p = some (.lst ys) → Q (.ref p) H'
section
variable {P : Program} {w : World} {K : PySem.W.Frag} {mg : Str → Option Value} {base : Heap} {c : Nat → Addr}
theorem go_fields0 {cdv : Value} {A : Around} {outer : List Env} {s : Shared} {H : Hp} {Q : VK} {E : XK} {f : Addr} (L : Lay P w K mg base c) (hr : Room 0 (A.deeper (envOfC "_law_fields" (defScope s_law_fields) s.heap.objs.size f cdv))) {a : Addr} (hx : IsE (c 0) (FF ([] : List Str) []) a H)
    (k : ∀ (p : Addr) (H' : Hp), Same H H' → p ≠ sysModules → H' p = some (.lst []) → Q (.ref p) H') :
    ∃ t, PSs (cxOf CX0 P w K mg base N_law_fields "_law_fields" (defScope s_law_fields) f cdv A outer s H E).nox (defBody s_law_fields) t ∧ t { nx := fun _ H' => Q .non H', rt := Q } (start N_law_fields [.int 0, .ref a]) H := by
  refine ⟨_, (pss_cons (ps_if (pt_cmpR op_in_seq (pv 0) (pe_tup (pa_cons pe_int (pa_cons pe_int (pa_cons pe_int (pa_cons pe_int (pa_cons pe_int (pa_cons pe_int pa_nil))))))) rfl) (pss_one (ps_ret (pe_lstX (pa_cons (pe_fldE (pv 1)) pa_nil)))) pss_nil)
      (pss_cons (ps_if (pt_cmpR op_in_seq (pv 0) (pe_tup (pa_cons pe_int (pa_cons pe_int (pa_cons pe_int pa_nil)))) rfl) (pss_one (ps_ret (pe_lstX (pa_cons (pe_fldE (pv 1)) pa_nil)))) pss_nil)
      (pss_cons (ps_if (pt_cmpR op_eq (pv 0) pe_int (nomark _)) (pss_one (ps_ret (pe_lstX (pa_cons (pe_fldE (pv 1)) (pa_cons (pe_fldE (pv 1)) pa_nil))))) pss_nil)
      (pss_cons (ps_if (pt_cmpR op_eq (pv 0) pe_int (nomark _)) (pss_one (ps_ret (pe_lstX (pa_cons (pe_fldE (pv 1)) pa_nil)))) pss_nil)
      (pss_cons (ps_if (pt_cmpR op_eq (pv 0) pe_int (nomark _)) (pss_one (ps_ret (pe_lstX (pa_cons (pe_fldE (pv 1)) (pa_cons (pe_fldE (pv 1)) pa_nil))))) pss_nil)
      (pss_cons (ps_if (pt_cmpR op_eq (pv 0) pe_int (nomark _)) (pss_one (ps_ret (pe_lstX (pa_cons (pe_fldE (pv 1)) pa_nil)))) pss_nil)
      (pss_cons (ps_if (pt_cmpR op_eq (pv 0) pe_int (nomark _)) (pss_one (ps_ret (pe_lstX (pa_cons (pe_fldE (pv 1)) pa_nil)))) pss_nil)
      (pss_cons (ps_if (pt_cmpR op_eq (pv 0) pe_int (nomark _)) (pss_one (ps_ret (pe_lstX (pa_cons (pe_fldE (pv 1)) pa_nil)))) pss_nil)
      (pss_one (ps_ret (pe_ifExp (pt_cmpR op_eq (pv 0) pe_int (nomark _)) (pe_lstX (pa_cons (pe_fldE (pv 1)) pa_nil)) (pe_lstX pa_nil)))))))))))), ?_⟩
  try dsimp only [cxOf]
  rw [show L2.start N_law_fields [.int 0, .ref a] = [some (.int 0), some (.ref a)] from rfl]
  have S : Same H H := fun _ _ e => e
  walk_at "hgo"
  intro p1 n1
  have s1 := same_new (o := .tup [V.int 1, V.int 2, V.int 4, V.int 5, V.int 6, V.int 10]) n1
  walk_at "hx"
  refine g_inT upd_same rfl rfl ?_
  generalize upd _ p1 _ = G1 at s1 ⊢
  replace hx := hx.ext s1
  replace S := same_trans S s1
  walk_at "hx"
  try refine g_false (by decide) ?_
  walk_at "hgo"
  intro p2 n2
  have s2 := same_new (o := .tup [V.int 8, V.int 9, V.int 13]) n2
  walk_at "hx"
  refine g_inT upd_same rfl rfl ?_
  generalize upd _ p2 _ = G2 at s2 ⊢
  replace hx := hx.ext s2
  replace S := same_trans S s2
  walk_at "hx"
  try refine g_false (by decide) ?_
  walk_at "hgo"
  walk_at "hx"
  try refine g_false (by decide) ?_
  walk_at "hgo"
  walk_at "hx"
  try refine g_false (by decide) ?_
  walk_at "hgo"
  walk_at "hx"
  try refine g_false (by decide) ?_
  walk_at "hgo"
  walk_at "hx"
  try refine g_false (by decide) ?_
  walk_at "hgo"
  walk_at "hx"
  try refine g_false (by decide) ?_
  walk_at "hgo"
  walk_at "hx"
  try refine g_false (by decide) ?_
  walk_at "hgo"
  walk_at "hx"
  try refine g_false (by decide) ?_
  walk_at "hgo"
  intro p n zz
  walk_at "hgo"
  exact k p _ (same_trans S (same_new n)) zz upd_same
theorem go_fields1 {cdv : Value} {A : Around} {outer : List Env} {s : Shared} {H : Hp} {Q : VK} {E : XK} {f : Addr} (L : Lay P w K mg base c) (hr : Room 0 (A.deeper (envOfC "_law_fields" (defScope s_law_fields) s.heap.objs.size f cdv))) {a : Addr} {y : V} (hx : IsE (c 1) (FF (["reason"] : List Str) [y]) a H)
    (k : ∀ (p : Addr) (H' : Hp), Same H H' → p ≠ sysModules → H' p = some (.lst [y]) → Q (.ref p) H') :
    ∃ t, PSs (cxOf CX0 P w K mg base N_law_fields "_law_fields" (defScope s_law_fields) f cdv A outer s H E).nox (defBody s_law_fields) t ∧ t { nx := fun _ H' => Q .non H', rt := Q } (start N_law_fields [.int 1, .ref a]) H := by
  refine ⟨_, (pss_cons (ps_if (pt_cmpR op_in_seq (pv 0) (pe_tup (pa_cons pe_int (pa_cons pe_int (pa_cons pe_int (pa_cons pe_int (pa_cons pe_int (pa_cons pe_int pa_nil))))))) rfl) (pss_one (ps_ret (pe_lstX (pa_cons (pe_fldE (pv 1)) pa_nil)))) pss_nil)
      (pss_cons (ps_if (pt_cmpR op_in_seq (pv 0) (pe_tup (pa_cons pe_int (pa_cons pe_int (pa_cons pe_int pa_nil)))) rfl) (pss_one (ps_ret (pe_lstX (pa_cons (pe_fldE (pv 1)) pa_nil)))) pss_nil)
      (pss_cons (ps_if (pt_cmpR op_eq (pv 0) pe_int (nomark _)) (pss_one (ps_ret (pe_lstX (pa_cons (pe_fldE (pv 1)) (pa_cons (pe_fldE (pv 1)) pa_nil))))) pss_nil)
      (pss_cons (ps_if (pt_cmpR op_eq (pv 0) pe_int (nomark _)) (pss_one (ps_ret (pe_lstX (pa_cons (pe_fldE (pv 1)) pa_nil)))) pss_nil)
      (pss_cons (ps_if (pt_cmpR op_eq (pv 0) pe_int (nomark _)) (pss_one (ps_ret (pe_lstX (pa_cons (pe_fldE (pv 1)) (pa_cons (pe_fldE (pv 1)) pa_nil))))) pss_nil)
      (pss_cons (ps_if (pt_cmpR op_eq (pv 0) pe_int (nomark _)) (pss_one (ps_ret (pe_lstX (pa_cons (pe_fldE (pv 1)) pa_nil)))) pss_nil)
      (pss_cons (ps_if (pt_cmpR op_eq (pv 0) pe_int (nomark _)) (pss_one (ps_ret (pe_lstX (pa_cons (pe_fldE (pv 1)) pa_nil)))) pss_nil)
      (pss_cons (ps_if (pt_cmpR op_eq (pv 0) pe_int (nomark _)) (pss_one (ps_ret (pe_lstX (pa_cons (pe_fldE (pv 1)) pa_nil)))) pss_nil)
      (pss_one (ps_ret (pe_ifExp (pt_cmpR op_eq (pv 0) pe_int (nomark _)) (pe_lstX (pa_cons (pe_fldE (pv 1)) pa_nil)) (pe_lstX pa_nil)))))))))))), ?_⟩
  try dsimp only [cxOf]
  rw [show L2.start N_law_fields [.int 1, .ref a] = [some (.int 1), some (.ref a)] from rfl]
  have S : Same H H := fun _ _ e => e
  walk_at "hgo"
  intro p1 n1
  have s1 := same_new (o := .tup [V.int 1, V.int 2, V.int 4, V.int 5, V.int 6, V.int 10]) n1
  walk_at "hx"
  refine g_inT upd_same rfl rfl ?_
  generalize upd _ p1 _ = G1 at s1 ⊢
  replace hx := hx.ext s1
  replace S := same_trans S s1
  walk_at "hx"
  try refine g_true (by decide) ?_
  walk_at "hgo"
  refine ⟨a, c 1, _, y, rfl, L.ask 1 (by decide), L.no 1 (by decide) "reason" (by decide +kernel), hx, look1 _ _, ?_⟩
  walk_at "hgo"
  intro p n zz
  walk_at "hgo"
  exact k p _ (same_trans S (same_new n)) zz upd_same
theorem go_fields2 {cdv : Value} {A : Around} {outer : List Env} {s : Shared} {H : Hp} {Q : VK} {E : XK} {f : Addr} (L : Lay P w K mg base c) (hr : Room 0 (A.deeper (envOfC "_law_fields" (defScope s_law_fields) s.heap.objs.size f cdv))) {a : Addr} {y : V} (hx : IsE (c 2) (FF (["reason"] : List Str) [y]) a H)
    (k : ∀ (p : Addr) (H' : Hp), Same H H' → p ≠ sysModules → H' p = some (.lst [y]) → Q (.ref p) H') :
    ∃ t, PSs (cxOf CX0 P w K mg base N_law_fields "_law_fields" (defScope s_law_fields) f cdv A outer s H E).nox (defBody s_law_fields) t ∧ t { nx := fun _ H' => Q .non H', rt := Q } (start N_law_fields [.int 2, .ref a]) H := by
  refine ⟨_, (pss_cons (ps_if (pt_cmpR op_in_seq (pv 0) (pe_tup (pa_cons pe_int (pa_cons pe_int (pa_cons pe_int (pa_cons pe_int (pa_cons pe_int (pa_cons pe_int pa_nil))))))) rfl) (pss_one (ps_ret (pe_lstX (pa_cons (pe_fldE (pv 1)) pa_nil)))) pss_nil)
      (pss_cons (ps_if (pt_cmpR op_in_seq (pv 0) (pe_tup (pa_cons pe_int (pa_cons pe_int (pa_cons pe_int pa_nil)))) rfl) (pss_one (ps_ret (pe_lstX (pa_cons (pe_fldE (pv 1)) pa_nil)))) pss_nil)
      (pss_cons (ps_if (pt_cmpR op_eq (pv 0) pe_int (nomark _)) (pss_one (ps_ret (pe_lstX (pa_cons (pe_fldE (pv 1)) (pa_cons (pe_fldE (pv 1)) pa_nil))))) pss_nil)
      (pss_cons (ps_if (pt_cmpR op_eq (pv 0) pe_int (nomark _)) (pss_one (ps_ret (pe_lstX (pa_cons (pe_fldE (pv 1)) pa_nil)))) pss_nil)
      (pss_cons (ps_if (pt_cmpR op_eq (pv 0) pe_int (nomark _)) (pss_one (ps_ret (pe_lstX (pa_cons (pe_fldE (pv 1)) (pa_cons (pe_fldE (pv 1)) pa_nil))))) pss_nil)
      (pss_cons (ps_if (pt_cmpR op_eq (pv 0) pe_int (nomark _)) (pss_one (ps_ret (pe_lstX (pa_cons (pe_fldE (pv 1)) pa_nil)))) pss_nil)
      (pss_cons (ps_if (pt_cmpR op_eq (pv 0) pe_int (nomark _)) (pss_one (ps_ret (pe_lstX (pa_cons (pe_fldE (pv 1)) pa_nil)))) pss_nil)
      (pss_cons (ps_if (pt_cmpR op_eq (pv 0) pe_int (nomark _)) (pss_one (ps_ret (pe_lstX (pa_cons (pe_fldE (pv 1)) pa_nil)))) pss_nil)
      (pss_one (ps_ret (pe_ifExp (pt_cmpR op_eq (pv 0) pe_int (nomark _)) (pe_lstX (pa_cons (pe_fldE (pv 1)) pa_nil)) (pe_lstX pa_nil)))))))))))), ?_⟩
  try dsimp only [cxOf]
  rw [show L2.start N_law_fields [.int 2, .ref a] = [some (.int 2), some (.ref a)] from rfl]
  have S : Same H H := fun _ _ e => e
  walk_at "hgo"
  intro p1 n1
  have s1 := same_new (o := .tup [V.int 1, V.int 2, V.int 4, V.int 5, V.int 6, V.int 10]) n1
  walk_at "hx"
  refine g_inT upd_same rfl rfl ?_
  generalize upd _ p1 _ = G1 at s1 ⊢
  replace hx := hx.ext s1
  replace S := same_trans S s1
  walk_at "hx"
  try refine g_true (by decide) ?_
  walk_at "hgo"
  refine ⟨a, c 2, _, y, rfl, L.ask 2 (by decide), L.no 2 (by decide) "reason" (by decide +kernel), hx, look1 _ _, ?_⟩
  walk_at "hgo"
  intro p n zz
  walk_at "hgo"
  exact k p _ (same_trans S (same_new n)) zz upd_same
theorem go_fields3 {cdv : Value} {A : Around} {outer : List Env} {s : Shared} {H : Hp} {Q : VK} {E : XK} {f : Addr} (L : Lay P w K mg base c) (hr : Room 0 (A.deeper (envOfC "_law_fields" (defScope s_law_fields) s.heap.objs.size f cdv))) {a : Addr} {y z : V} (hx : IsE (c 3) (FF (["reason", "name"] : List Str) [y, z]) a H)
    (k : ∀ (p : Addr) (H' : Hp), Same H H' → p ≠ sysModules → H' p = some (.lst [y, z]) → Q (.ref p) H') :
    ∃ t, PSs (cxOf CX0 P w K mg base N_law_fields "_law_fields" (defScope s_law_fields) f cdv A outer s H E).nox (defBody s_law_fields) t ∧ t { nx := fun _ H' => Q .non H', rt := Q } (start N_law_fields [.int 3, .ref a]) H := by
  refine ⟨_, (pss_cons (ps_if (pt_cmpR op_in_seq (pv 0) (pe_tup (pa_cons pe_int (pa_cons pe_int (pa_cons pe_int (pa_cons pe_int (pa_cons pe_int (pa_cons pe_int pa_nil))))))) rfl) (pss_one (ps_ret (pe_lstX (pa_cons (pe_fldE (pv 1)) pa_nil)))) pss_nil)
      (pss_cons (ps_if (pt_cmpR op_in_seq (pv 0) (pe_tup (pa_cons pe_int (pa_cons pe_int (pa_cons pe_int pa_nil)))) rfl) (pss_one (ps_ret (pe_lstX (pa_cons (pe_fldE (pv 1)) pa_nil)))) pss_nil)
      (pss_cons (ps_if (pt_cmpR op_eq (pv 0) pe_int (nomark _)) (pss_one (ps_ret (pe_lstX (pa_cons (pe_fldE (pv 1)) (pa_cons (pe_fldE (pv 1)) pa_nil))))) pss_nil)
      (pss_cons (ps_if (pt_cmpR op_eq (pv 0) pe_int (nomark _)) (pss_one (ps_ret (pe_lstX (pa_cons (pe_fldE (pv 1)) pa_nil)))) pss_nil)
      (pss_cons (ps_if (pt_cmpR op_eq (pv 0) pe_int (nomark _)) (pss_one (ps_ret (pe_lstX (pa_cons (pe_fldE (pv 1)) (pa_cons (pe_fldE (pv 1)) pa_nil))))) pss_nil)
      (pss_cons (ps_if (pt_cmpR op_eq (pv 0) pe_int (nomark _)) (pss_one (ps_ret (pe_lstX (pa_cons (pe_fldE (pv 1)) pa_nil)))) pss_nil)
      (pss_cons (ps_if (pt_cmpR op_eq (pv 0) pe_int (nomark _)) (pss_one (ps_ret (pe_lstX (pa_cons (pe_fldE (pv 1)) pa_nil)))) pss_nil)
      (pss_cons (ps_if (pt_cmpR op_eq (pv 0) pe_int (nomark _)) (pss_one (ps_ret (pe_lstX (pa_cons (pe_fldE (pv 1)) pa_nil)))) pss_nil)
      (pss_one (ps_ret (pe_ifExp (pt_cmpR op_eq (pv 0) pe_int (nomark _)) (pe_lstX (pa_cons (pe_fldE (pv 1)) pa_nil)) (pe_lstX pa_nil)))))))))))), ?_⟩
  try dsimp only [cxOf]
  rw [show L2.start N_law_fields [.int 3, .ref a] = [some (.int 3), some (.ref a)] from rfl]
  have S : Same H H := fun _ _ e => e
  walk_at "hgo"
  intro p1 n1
  have s1 := same_new (o := .tup [V.int 1, V.int 2, V.int 4, V.int 5, V.int 6, V.int 10]) n1
  walk_at "hx"
  refine g_inT upd_same rfl rfl ?_
  generalize upd _ p1 _ = G1 at s1 ⊢
  replace hx := hx.ext s1
  replace S := same_trans S s1
  walk_at "hx"
  try refine g_false (by decide) ?_
  walk_at "hgo"
  intro p2 n2
  have s2 := same_new (o := .tup [V.int 8, V.int 9, V.int 13]) n2
  walk_at "hx"
  refine g_inT upd_same rfl rfl ?_
  generalize upd _ p2 _ = G2 at s2 ⊢
  replace hx := hx.ext s2
  replace S := same_trans S s2
  walk_at "hx"
  try refine g_false (by decide) ?_
  walk_at "hgo"
  walk_at "hx"
  try refine g_true (by decide) ?_
  walk_at "hgo"
  refine ⟨a, c 3, _, y, rfl, L.ask 3 (by decide), L.no 3 (by decide) "reason" (by decide +kernel), hx, look2a _ _ _ _ (by decide +kernel), ?_⟩
  walk_at "hgo"
  refine ⟨a, c 3, _, z, rfl, L.ask 3 (by decide), L.no 3 (by decide) "name" (by decide +kernel), hx, look2b _ _ _ _, ?_⟩
  walk_at "hgo"
  intro p n zz
  walk_at "hgo"
  exact k p _ (same_trans S (same_new n)) zz upd_same
theorem go_fields4 {cdv : Value} {A : Around} {outer : List Env} {s : Shared} {H : Hp} {Q : VK} {E : XK} {f : Addr} (L : Lay P w K mg base c) (hr : Room 0 (A.deeper (envOfC "_law_fields" (defScope s_law_fields) s.heap.objs.size f cdv))) {a : Addr} {y : V} (hx : IsE (c 4) (FF (["reason"] : List Str) [y]) a H)
    (k : ∀ (p : Addr) (H' : Hp), Same H H' → p ≠ sysModules → H' p = some (.lst [y]) → Q (.ref p) H') :
    ∃ t, PSs (cxOf CX0 P w K mg base N_law_fields "_law_fields" (defScope s_law_fields) f cdv A outer s H E).nox (defBody s_law_fields) t ∧ t { nx := fun _ H' => Q .non H', rt := Q } (start N_law_fields [.int 4, .ref a]) H := by
  refine ⟨_, (pss_cons (ps_if (pt_cmpR op_in_seq (pv 0) (pe_tup (pa_cons pe_int (pa_cons pe_int (pa_cons pe_int (pa_cons pe_int (pa_cons pe_int (pa_cons pe_int pa_nil))))))) rfl) (pss_one (ps_ret (pe_lstX (pa_cons (pe_fldE (pv 1)) pa_nil)))) pss_nil)
      (pss_cons (ps_if (pt_cmpR op_in_seq (pv 0) (pe_tup (pa_cons pe_int (pa_cons pe_int (pa_cons pe_int pa_nil)))) rfl) (pss_one (ps_ret (pe_lstX (pa_cons (pe_fldE (pv 1)) pa_nil)))) pss_nil)
      (pss_cons (ps_if (pt_cmpR op_eq (pv 0) pe_int (nomark _)) (pss_one (ps_ret (pe_lstX (pa_cons (pe_fldE (pv 1)) (pa_cons (pe_fldE (pv 1)) pa_nil))))) pss_nil)
      (pss_cons (ps_if (pt_cmpR op_eq (pv 0) pe_int (nomark _)) (pss_one (ps_ret (pe_lstX (pa_cons (pe_fldE (pv 1)) pa_nil)))) pss_nil)
      (pss_cons (ps_if (pt_cmpR op_eq (pv 0) pe_int (nomark _)) (pss_one (ps_ret (pe_lstX (pa_cons (pe_fldE (pv 1)) (pa_cons (pe_fldE (pv 1)) pa_nil))))) pss_nil)
      (pss_cons (ps_if (pt_cmpR op_eq (pv 0) pe_int (nomark _)) (pss_one (ps_ret (pe_lstX (pa_cons (pe_fldE (pv 1)) pa_nil)))) pss_nil)
      (pss_cons (ps_if (pt_cmpR op_eq (pv 0) pe_int (nomark _)) (pss_one (ps_ret (pe_lstX (pa_cons (pe_fldE (pv 1)) pa_nil)))) pss_nil)
      (pss_cons (ps_if (pt_cmpR op_eq (pv 0) pe_int (nomark _)) (pss_one (ps_ret (pe_lstX (pa_cons (pe_fldE (pv 1)) pa_nil)))) pss_nil)
      (pss_one (ps_ret (pe_ifExp (pt_cmpR op_eq (pv 0) pe_int (nomark _)) (pe_lstX (pa_cons (pe_fldE (pv 1)) pa_nil)) (pe_lstX pa_nil)))))))))))), ?_⟩
  try dsimp only [cxOf]
  rw [show L2.start N_law_fields [.int 4, .ref a] = [some (.int 4), some (.ref a)] from rfl]
  have S : Same H H := fun _ _ e => e
  walk_at "hgo"
  intro p1 n1
  have s1 := same_new (o := .tup [V.int 1, V.int 2, V.int 4, V.int 5, V.int 6, V.int 10]) n1
  walk_at "hx"
  refine g_inT upd_same rfl rfl ?_
  generalize upd _ p1 _ = G1 at s1 ⊢
  replace hx := hx.ext s1
  replace S := same_trans S s1
  walk_at "hx"
  try refine g_true (by decide) ?_
  walk_at "hgo"
  refine ⟨a, c 4, _, y, rfl, L.ask 4 (by decide), L.no 4 (by decide) "reason" (by decide +kernel), hx, look1 _ _, ?_⟩
  walk_at "hgo"
  intro p n zz
  walk_at "hgo"
  exact k p _ (same_trans S (same_new n)) zz upd_same
theorem go_fields5 {cdv : Value} {A : Around} {outer : List Env} {s : Shared} {H : Hp} {Q : VK} {E : XK} {f : Addr} (L : Lay P w K mg base c) (hr : Room 0 (A.deeper (envOfC "_law_fields" (defScope s_law_fields) s.heap.objs.size f cdv))) {a : Addr} {y : V} (hx : IsE (c 5) (FF (["reason"] : List Str) [y]) a H)
    (k : ∀ (p : Addr) (H' : Hp), Same H H' → p ≠ sysModules → H' p = some (.lst [y]) → Q (.ref p) H') :
    ∃ t, PSs (cxOf CX0 P w K mg base N_law_fields "_law_fields" (defScope s_law_fields) f cdv A outer s H E).nox (defBody s_law_fields) t ∧ t { nx := fun _ H' => Q .non H', rt := Q } (start N_law_fields [.int 5, .ref a]) H := by
  refine ⟨_, (pss_cons (ps_if (pt_cmpR op_in_seq (pv 0) (pe_tup (pa_cons pe_int (pa_cons pe_int (pa_cons pe_int (pa_cons pe_int (pa_cons pe_int (pa_cons pe_int pa_nil))))))) rfl) (pss_one (ps_ret (pe_lstX (pa_cons (pe_fldE (pv 1)) pa_nil)))) pss_nil)
      (pss_cons (ps_if (pt_cmpR op_in_seq (pv 0) (pe_tup (pa_cons pe_int (pa_cons pe_int (pa_cons pe_int pa_nil)))) rfl) (pss_one (ps_ret (pe_lstX (pa_cons (pe_fldE (pv 1)) pa_nil)))) pss_nil)
      (pss_cons (ps_if (pt_cmpR op_eq (pv 0) pe_int (nomark _)) (pss_one (ps_ret (pe_lstX (pa_cons (pe_fldE (pv 1)) (pa_cons (pe_fldE (pv 1)) pa_nil))))) pss_nil)
      (pss_cons (ps_if (pt_cmpR op_eq (pv 0) pe_int (nomark _)) (pss_one (ps_ret (pe_lstX (pa_cons (pe_fldE (pv 1)) pa_nil)))) pss_nil)
      (pss_cons (ps_if (pt_cmpR op_eq (pv 0) pe_int (nomark _)) (pss_one (ps_ret (pe_lstX (pa_cons (pe_fldE (pv 1)) (pa_cons (pe_fldE (pv 1)) pa_nil))))) pss_nil)
      (pss_cons (ps_if (pt_cmpR op_eq (pv 0) pe_int (nomark _)) (pss_one (ps_ret (pe_lstX (pa_cons (pe_fldE (pv 1)) pa_nil)))) pss_nil)
      (pss_cons (ps_if (pt_cmpR op_eq (pv 0) pe_int (nomark _)) (pss_one (ps_ret (pe_lstX (pa_cons (pe_fldE (pv 1)) pa_nil)))) pss_nil)
      (pss_cons (ps_if (pt_cmpR op_eq (pv 0) pe_int (nomark _)) (pss_one (ps_ret (pe_lstX (pa_cons (pe_fldE (pv 1)) pa_nil)))) pss_nil)
      (pss_one (ps_ret (pe_ifExp (pt_cmpR op_eq (pv 0) pe_int (nomark _)) (pe_lstX (pa_cons (pe_fldE (pv 1)) pa_nil)) (pe_lstX pa_nil)))))))))))), ?_⟩
  try dsimp only [cxOf]
  rw [show L2.start N_law_fields [.int 5, .ref a] = [some (.int 5), some (.ref a)] from rfl]
  have S : Same H H := fun _ _ e => e
  walk_at "hgo"
  intro p1 n1
  have s1 := same_new (o := .tup [V.int 1, V.int 2, V.int 4, V.int 5, V.int 6, V.int 10]) n1
  walk_at "hx"
  refine g_inT upd_same rfl rfl ?_
  generalize upd _ p1 _ = G1 at s1 ⊢
  replace hx := hx.ext s1
  replace S := same_trans S s1
  walk_at "hx"
  try refine g_true (by decide) ?_
  walk_at "hgo"
  refine ⟨a, c 5, _, y, rfl, L.ask 5 (by decide), L.no 5 (by decide) "reason" (by decide +kernel), hx, look1 _ _, ?_⟩
  walk_at "hgo"
  intro p n zz
  walk_at "hgo"
  exact k p _ (same_trans S (same_new n)) zz upd_same
theorem go_fields6 {cdv : Value} {A : Around} {outer : List Env} {s : Shared} {H : Hp} {Q : VK} {E : XK} {f : Addr} (L : Lay P w K mg base c) (hr : Room 0 (A.deeper (envOfC "_law_fields" (defScope s_law_fields) s.heap.objs.size f cdv))) {a : Addr} {y : V} (hx : IsE (c 6) (FF (["reason"] : List Str) [y]) a H)
    (k : ∀ (p : Addr) (H' : Hp), Same H H' → p ≠ sysModules → H' p = some (.lst [y]) → Q (.ref p) H') :
    ∃ t, PSs (cxOf CX0 P w K mg base N_law_fields "_law_fields" (defScope s_law_fields) f cdv A outer s H E).nox (defBody s_law_fields) t ∧ t { nx := fun _ H' => Q .non H', rt := Q } (start N_law_fields [.int 6, .ref a]) H := by
  refine ⟨_, (pss_cons (ps_if (pt_cmpR op_in_seq (pv 0) (pe_tup (pa_cons pe_int (pa_cons pe_int (pa_cons pe_int (pa_cons pe_int (pa_cons pe_int (pa_cons pe_int pa_nil))))))) rfl) (pss_one (ps_ret (pe_lstX (pa_cons (pe_fldE (pv 1)) pa_nil)))) pss_nil)
      (pss_cons (ps_if (pt_cmpR op_in_seq (pv 0) (pe_tup (pa_cons pe_int (pa_cons pe_int (pa_cons pe_int pa_nil)))) rfl) (pss_one (ps_ret (pe_lstX (pa_cons (pe_fldE (pv 1)) pa_nil)))) pss_nil)
      (pss_cons (ps_if (pt_cmpR op_eq (pv 0) pe_int (nomark _)) (pss_one (ps_ret (pe_lstX (pa_cons (pe_fldE (pv 1)) (pa_cons (pe_fldE (pv 1)) pa_nil))))) pss_nil)
      (pss_cons (ps_if (pt_cmpR op_eq (pv 0) pe_int (nomark _)) (pss_one (ps_ret (pe_lstX (pa_cons (pe_fldE (pv 1)) pa_nil)))) pss_nil)
      (pss_cons (ps_if (pt_cmpR op_eq (pv 0) pe_int (nomark _)) (pss_one (ps_ret (pe_lstX (pa_cons (pe_fldE (pv 1)) (pa_cons (pe_fldE (pv 1)) pa_nil))))) pss_nil)
      (pss_cons (ps_if (pt_cmpR op_eq (pv 0) pe_int (nomark _)) (pss_one (ps_ret (pe_lstX (pa_cons (pe_fldE (pv 1)) pa_nil)))) pss_nil)
      (pss_cons (ps_if (pt_cmpR op_eq (pv 0) pe_int (nomark _)) (pss_one (ps_ret (pe_lstX (pa_cons (pe_fldE (pv 1)) pa_nil)))) pss_nil)
      (pss_cons (ps_if (pt_cmpR op_eq (pv 0) pe_int (nomark _)) (pss_one (ps_ret (pe_lstX (pa_cons (pe_fldE (pv 1)) pa_nil)))) pss_nil)
      (pss_one (ps_ret (pe_ifExp (pt_cmpR op_eq (pv 0) pe_int (nomark _)) (pe_lstX (pa_cons (pe_fldE (pv 1)) pa_nil)) (pe_lstX pa_nil)))))))))))), ?_⟩
  try dsimp only [cxOf]
  rw [show L2.start N_law_fields [.int 6, .ref a] = [some (.int 6), some (.ref a)] from rfl]
  have S : Same H H := fun _ _ e => e
  walk_at "hgo"
  intro p1 n1
  have s1 := same_new (o := .tup [V.int 1, V.int 2, V.int 4, V.int 5, V.int 6, V.int 10]) n1
  walk_at "hx"
  refine g_inT upd_same rfl rfl ?_
  generalize upd _ p1 _ = G1 at s1 ⊢
  replace hx := hx.ext s1
  replace S := same_trans S s1
  walk_at "hx"
  try refine g_true (by decide) ?_
  walk_at "hgo"
  refine ⟨a, c 6, _, y, rfl, L.ask 6 (by decide), L.no 6 (by decide) "reason" (by decide +kernel), hx, look1 _ _, ?_⟩
  walk_at "hgo"
  intro p n zz
  walk_at "hgo"
  exact k p _ (same_trans S (same_new n)) zz upd_same
theorem go_fields7 {cdv : Value} {A : Around} {outer : List Env} {s : Shared} {H : Hp} {Q : VK} {E : XK} {f : Addr} (L : Lay P w K mg base c) (hr : Room 0 (A.deeper (envOfC "_law_fields" (defScope s_law_fields) s.heap.objs.size f cdv))) {a : Addr} {y : V} (hx : IsE (c 7) (FF (["index"] : List Str) [y]) a H)
    (k : ∀ (p : Addr) (H' : Hp), Same H H' → p ≠ sysModules → H' p = some (.lst [y]) → Q (.ref p) H') :
    ∃ t, PSs (cxOf CX0 P w K mg base N_law_fields "_law_fields" (defScope s_law_fields) f cdv A outer s H E).nox (defBody s_law_fields) t ∧ t { nx := fun _ H' => Q .non H', rt := Q } (start N_law_fields [.int 7, .ref a]) H := by
  refine ⟨_, (pss_cons (ps_if (pt_cmpR op_in_seq (pv 0) (pe_tup (pa_cons pe_int (pa_cons pe_int (pa_cons pe_int (pa_cons pe_int (pa_cons pe_int (pa_cons pe_int pa_nil))))))) rfl) (pss_one (ps_ret (pe_lstX (pa_cons (pe_fldE (pv 1)) pa_nil)))) pss_nil)
      (pss_cons (ps_if (pt_cmpR op_in_seq (pv 0) (pe_tup (pa_cons pe_int (pa_cons pe_int (pa_cons pe_int pa_nil)))) rfl) (pss_one (ps_ret (pe_lstX (pa_cons (pe_fldE (pv 1)) pa_nil)))) pss_nil)
      (pss_cons (ps_if (pt_cmpR op_eq (pv 0) pe_int (nomark _)) (pss_one (ps_ret (pe_lstX (pa_cons (pe_fldE (pv 1)) (pa_cons (pe_fldE (pv 1)) pa_nil))))) pss_nil)
      (pss_cons (ps_if (pt_cmpR op_eq (pv 0) pe_int (nomark _)) (pss_one (ps_ret (pe_lstX (pa_cons (pe_fldE (pv 1)) pa_nil)))) pss_nil)
      (pss_cons (ps_if (pt_cmpR op_eq (pv 0) pe_int (nomark _)) (pss_one (ps_ret (pe_lstX (pa_cons (pe_fldE (pv 1)) (pa_cons (pe_fldE (pv 1)) pa_nil))))) pss_nil)
      (pss_cons (ps_if (pt_cmpR op_eq (pv 0) pe_int (nomark _)) (pss_one (ps_ret (pe_lstX (pa_cons (pe_fldE (pv 1)) pa_nil)))) pss_nil)
      (pss_cons (ps_if (pt_cmpR op_eq (pv 0) pe_int (nomark _)) (pss_one (ps_ret (pe_lstX (pa_cons (pe_fldE (pv 1)) pa_nil)))) pss_nil)
      (pss_cons (ps_if (pt_cmpR op_eq (pv 0) pe_int (nomark _)) (pss_one (ps_ret (pe_lstX (pa_cons (pe_fldE (pv 1)) pa_nil)))) pss_nil)
      (pss_one (ps_ret (pe_ifExp (pt_cmpR op_eq (pv 0) pe_int (nomark _)) (pe_lstX (pa_cons (pe_fldE (pv 1)) pa_nil)) (pe_lstX pa_nil)))))))))))), ?_⟩
  try dsimp only [cxOf]
  rw [show L2.start N_law_fields [.int 7, .ref a] = [some (.int 7), some (.ref a)] from rfl]
  have S : Same H H := fun _ _ e => e
  walk_at "hgo"
  intro p1 n1
  have s1 := same_new (o := .tup [V.int 1, V.int 2, V.int 4, V.int 5, V.int 6, V.int 10]) n1
  walk_at "hx"
  refine g_inT upd_same rfl rfl ?_
  generalize upd _ p1 _ = G1 at s1 ⊢
  replace hx := hx.ext s1
  replace S := same_trans S s1
  walk_at "hx"
  try refine g_false (by decide) ?_
  walk_at "hgo"
  intro p2 n2
  have s2 := same_new (o := .tup [V.int 8, V.int 9, V.int 13]) n2
  walk_at "hx"
  refine g_inT upd_same rfl rfl ?_
  generalize upd _ p2 _ = G2 at s2 ⊢
  replace hx := hx.ext s2
  replace S := same_trans S s2
  walk_at "hx"
  try refine g_false (by decide) ?_
  walk_at "hgo"
  walk_at "hx"
  try refine g_false (by decide) ?_
  walk_at "hgo"
  walk_at "hx"
  try refine g_true (by decide) ?_
  walk_at "hgo"
  refine ⟨a, c 7, _, y, rfl, L.ask 7 (by decide), L.no 7 (by decide) "index" (by decide +kernel), hx, look1 _ _, ?_⟩
  walk_at "hgo"
  intro p n zz
  walk_at "hgo"
  exact k p _ (same_trans S (same_new n)) zz upd_same
theorem go_fields8 {cdv : Value} {A : Around} {outer : List Env} {s : Shared} {H : Hp} {Q : VK} {E : XK} {f : Addr} (L : Lay P w K mg base c) (hr : Room 0 (A.deeper (envOfC "_law_fields" (defScope s_law_fields) s.heap.objs.size f cdv))) {a : Addr} {y : V} (hx : IsE (c 8) (FF (["name"] : List Str) [y]) a H)
    (k : ∀ (p : Addr) (H' : Hp), Same H H' → p ≠ sysModules → H' p = some (.lst [y]) → Q (.ref p) H') :
    ∃ t, PSs (cxOf CX0 P w K mg base N_law_fields "_law_fields" (defScope s_law_fields) f cdv A outer s H E).nox (defBody s_law_fields) t ∧ t { nx := fun _ H' => Q .non H', rt := Q } (start N_law_fields [.int 8, .ref a]) H := by
  refine ⟨_, (pss_cons (ps_if (pt_cmpR op_in_seq (pv 0) (pe_tup (pa_cons pe_int (pa_cons pe_int (pa_cons pe_int (pa_cons pe_int (pa_cons pe_int (pa_cons pe_int pa_nil))))))) rfl) (pss_one (ps_ret (pe_lstX (pa_cons (pe_fldE (pv 1)) pa_nil)))) pss_nil)
      (pss_cons (ps_if (pt_cmpR op_in_seq (pv 0) (pe_tup (pa_cons pe_int (pa_cons pe_int (pa_cons pe_int pa_nil)))) rfl) (pss_one (ps_ret (pe_lstX (pa_cons (pe_fldE (pv 1)) pa_nil)))) pss_nil)
      (pss_cons (ps_if (pt_cmpR op_eq (pv 0) pe_int (nomark _)) (pss_one (ps_ret (pe_lstX (pa_cons (pe_fldE (pv 1)) (pa_cons (pe_fldE (pv 1)) pa_nil))))) pss_nil)
      (pss_cons (ps_if (pt_cmpR op_eq (pv 0) pe_int (nomark _)) (pss_one (ps_ret (pe_lstX (pa_cons (pe_fldE (pv 1)) pa_nil)))) pss_nil)
      (pss_cons (ps_if (pt_cmpR op_eq (pv 0) pe_int (nomark _)) (pss_one (ps_ret (pe_lstX (pa_cons (pe_fldE (pv 1)) (pa_cons (pe_fldE (pv 1)) pa_nil))))) pss_nil)
      (pss_cons (ps_if (pt_cmpR op_eq (pv 0) pe_int (nomark _)) (pss_one (ps_ret (pe_lstX (pa_cons (pe_fldE (pv 1)) pa_nil)))) pss_nil)
      (pss_cons (ps_if (pt_cmpR op_eq (pv 0) pe_int (nomark _)) (pss_one (ps_ret (pe_lstX (pa_cons (pe_fldE (pv 1)) pa_nil)))) pss_nil)
      (pss_cons (ps_if (pt_cmpR op_eq (pv 0) pe_int (nomark _)) (pss_one (ps_ret (pe_lstX (pa_cons (pe_fldE (pv 1)) pa_nil)))) pss_nil)
      (pss_one (ps_ret (pe_ifExp (pt_cmpR op_eq (pv 0) pe_int (nomark _)) (pe_lstX (pa_cons (pe_fldE (pv 1)) pa_nil)) (pe_lstX pa_nil)))))))))))), ?_⟩
  try dsimp only [cxOf]
  rw [show L2.start N_law_fields [.int 8, .ref a] = [some (.int 8), some (.ref a)] from rfl]
  have S : Same H H := fun _ _ e => e
  walk_at "hgo"
  intro p1 n1
  have s1 := same_new (o := .tup [V.int 1, V.int 2, V.int 4, V.int 5, V.int 6, V.int 10]) n1
  walk_at "hx"
  refine g_inT upd_same rfl rfl ?_
  generalize upd _ p1 _ = G1 at s1 ⊢
  replace hx := hx.ext s1
  replace S := same_trans S s1
  walk_at "hx"
  try refine g_false (by decide) ?_
  walk_at "hgo"
  intro p2 n2
  have s2 := same_new (o := .tup [V.int 8, V.int 9, V.int 13]) n2
  walk_at "hx"
  refine g_inT upd_same rfl rfl ?_
  generalize upd _ p2 _ = G2 at s2 ⊢
  replace hx := hx.ext s2
  replace S := same_trans S s2
  walk_at "hx"
  try refine g_true (by decide) ?_
  walk_at "hgo"
  refine ⟨a, c 8, _, y, rfl, L.ask 8 (by decide), L.no 8 (by decide) "name" (by decide +kernel), hx, look1 _ _, ?_⟩
  walk_at "hgo"
  intro p n zz
  walk_at "hgo"
  exact k p _ (same_trans S (same_new n)) zz upd_same
theorem go_fields9 {cdv : Value} {A : Around} {outer : List Env} {s : Shared} {H : Hp} {Q : VK} {E : XK} {f : Addr} (L : Lay P w K mg base c) (hr : Room 0 (A.deeper (envOfC "_law_fields" (defScope s_law_fields) s.heap.objs.size f cdv))) {a : Addr} {y : V} (hx : IsE (c 9) (FF (["name"] : List Str) [y]) a H)
    (k : ∀ (p : Addr) (H' : Hp), Same H H' → p ≠ sysModules → H' p = some (.lst [y]) → Q (.ref p) H') :
    ∃ t, PSs (cxOf CX0 P w K mg base N_law_fields "_law_fields" (defScope s_law_fields) f cdv A outer s H E).nox (defBody s_law_fields) t ∧ t { nx := fun _ H' => Q .non H', rt := Q } (start N_law_fields [.int 9, .ref a]) H := by
  refine ⟨_, (pss_cons (ps_if (pt_cmpR op_in_seq (pv 0) (pe_tup (pa_cons pe_int (pa_cons pe_int (pa_cons pe_int (pa_cons pe_int (pa_cons pe_int (pa_cons pe_int pa_nil))))))) rfl) (pss_one (ps_ret (pe_lstX (pa_cons (pe_fldE (pv 1)) pa_nil)))) pss_nil)
      (pss_cons (ps_if (pt_cmpR op_in_seq (pv 0) (pe_tup (pa_cons pe_int (pa_cons pe_int (pa_cons pe_int pa_nil)))) rfl) (pss_one (ps_ret (pe_lstX (pa_cons (pe_fldE (pv 1)) pa_nil)))) pss_nil)
      (pss_cons (ps_if (pt_cmpR op_eq (pv 0) pe_int (nomark _)) (pss_one (ps_ret (pe_lstX (pa_cons (pe_fldE (pv 1)) (pa_cons (pe_fldE (pv 1)) pa_nil))))) pss_nil)
      (pss_cons (ps_if (pt_cmpR op_eq (pv 0) pe_int (nomark _)) (pss_one (ps_ret (pe_lstX (pa_cons (pe_fldE (pv 1)) pa_nil)))) pss_nil)
      (pss_cons (ps_if (pt_cmpR op_eq (pv 0) pe_int (nomark _)) (pss_one (ps_ret (pe_lstX (pa_cons (pe_fldE (pv 1)) (pa_cons (pe_fldE (pv 1)) pa_nil))))) pss_nil)
      (pss_cons (ps_if (pt_cmpR op_eq (pv 0) pe_int (nomark _)) (pss_one (ps_ret (pe_lstX (pa_cons (pe_fldE (pv 1)) pa_nil)))) pss_nil)
      (pss_cons (ps_if (pt_cmpR op_eq (pv 0) pe_int (nomark _)) (pss_one (ps_ret (pe_lstX (pa_cons (pe_fldE (pv 1)) pa_nil)))) pss_nil)
      (pss_cons (ps_if (pt_cmpR op_eq (pv 0) pe_int (nomark _)) (pss_one (ps_ret (pe_lstX (pa_cons (pe_fldE (pv 1)) pa_nil)))) pss_nil)
      (pss_one (ps_ret (pe_ifExp (pt_cmpR op_eq (pv 0) pe_int (nomark _)) (pe_lstX (pa_cons (pe_fldE (pv 1)) pa_nil)) (pe_lstX pa_nil)))))))))))), ?_⟩
  try dsimp only [cxOf]
  rw [show L2.start N_law_fields [.int 9, .ref a] = [some (.int 9), some (.ref a)] from rfl]
  have S : Same H H := fun _ _ e => e
  walk_at "hgo"
  intro p1 n1
  have s1 := same_new (o := .tup [V.int 1, V.int 2, V.int 4, V.int 5, V.int 6, V.int 10]) n1
  walk_at "hx"
  refine g_inT upd_same rfl rfl ?_
  generalize upd _ p1 _ = G1 at s1 ⊢
  replace hx := hx.ext s1
  replace S := same_trans S s1
  walk_at "hx"
  try refine g_false (by decide) ?_
  walk_at "hgo"
  intro p2 n2
  have s2 := same_new (o := .tup [V.int 8, V.int 9, V.int 13]) n2
  walk_at "hx"
  refine g_inT upd_same rfl rfl ?_
  generalize upd _ p2 _ = G2 at s2 ⊢
  replace hx := hx.ext s2
  replace S := same_trans S s2
  walk_at "hx"
  try refine g_true (by decide) ?_
  walk_at "hgo"
  refine ⟨a, c 9, _, y, rfl, L.ask 9 (by decide), L.no 9 (by decide) "name" (by decide +kernel), hx, look1 _ _, ?_⟩
  walk_at "hgo"
  intro p n zz
  walk_at "hgo"
  exact k p _ (same_trans S (same_new n)) zz upd_same
theorem go_fields10 {cdv : Value} {A : Around} {outer : List Env} {s : Shared} {H : Hp} {Q : VK} {E : XK} {f : Addr} (L : Lay P w K mg base c) (hr : Room 0 (A.deeper (envOfC "_law_fields" (defScope s_law_fields) s.heap.objs.size f cdv))) {a : Addr} {y : V} (hx : IsE (c 10) (FF (["reason"] : List Str) [y]) a H)
    (k : ∀ (p : Addr) (H' : Hp), Same H H' → p ≠ sysModules → H' p = some (.lst [y]) → Q (.ref p) H') :
    ∃ t, PSs (cxOf CX0 P w K mg base N_law_fields "_law_fields" (defScope s_law_fields) f cdv A outer s H E).nox (defBody s_law_fields) t ∧ t { nx := fun _ H' => Q .non H', rt := Q } (start N_law_fields [.int 10, .ref a]) H := by
  refine ⟨_, (pss_cons (ps_if (pt_cmpR op_in_seq (pv 0) (pe_tup (pa_cons pe_int (pa_cons pe_int (pa_cons pe_int (pa_cons pe_int (pa_cons pe_int (pa_cons pe_int pa_nil))))))) rfl) (pss_one (ps_ret (pe_lstX (pa_cons (pe_fldE (pv 1)) pa_nil)))) pss_nil)
      (pss_cons (ps_if (pt_cmpR op_in_seq (pv 0) (pe_tup (pa_cons pe_int (pa_cons pe_int (pa_cons pe_int pa_nil)))) rfl) (pss_one (ps_ret (pe_lstX (pa_cons (pe_fldE (pv 1)) pa_nil)))) pss_nil)
      (pss_cons (ps_if (pt_cmpR op_eq (pv 0) pe_int (nomark _)) (pss_one (ps_ret (pe_lstX (pa_cons (pe_fldE (pv 1)) (pa_cons (pe_fldE (pv 1)) pa_nil))))) pss_nil)
      (pss_cons (ps_if (pt_cmpR op_eq (pv 0) pe_int (nomark _)) (pss_one (ps_ret (pe_lstX (pa_cons (pe_fldE (pv 1)) pa_nil)))) pss_nil)
      (pss_cons (ps_if (pt_cmpR op_eq (pv 0) pe_int (nomark _)) (pss_one (ps_ret (pe_lstX (pa_cons (pe_fldE (pv 1)) (pa_cons (pe_fldE (pv 1)) pa_nil))))) pss_nil)
      (pss_cons (ps_if (pt_cmpR op_eq (pv 0) pe_int (nomark _)) (pss_one (ps_ret (pe_lstX (pa_cons (pe_fldE (pv 1)) pa_nil)))) pss_nil)
      (pss_cons (ps_if (pt_cmpR op_eq (pv 0) pe_int (nomark _)) (pss_one (ps_ret (pe_lstX (pa_cons (pe_fldE (pv 1)) pa_nil)))) pss_nil)
      (pss_cons (ps_if (pt_cmpR op_eq (pv 0) pe_int (nomark _)) (pss_one (ps_ret (pe_lstX (pa_cons (pe_fldE (pv 1)) pa_nil)))) pss_nil)
      (pss_one (ps_ret (pe_ifExp (pt_cmpR op_eq (pv 0) pe_int (nomark _)) (pe_lstX (pa_cons (pe_fldE (pv 1)) pa_nil)) (pe_lstX pa_nil)))))))))))), ?_⟩
  try dsimp only [cxOf]
  rw [show L2.start N_law_fields [.int 10, .ref a] = [some (.int 10), some (.ref a)] from rfl]
  have S : Same H H := fun _ _ e => e
  walk_at "hgo"
  intro p1 n1
  have s1 := same_new (o := .tup [V.int 1, V.int 2, V.int 4, V.int 5, V.int 6, V.int 10]) n1
  walk_at "hx"
  refine g_inT upd_same rfl rfl ?_
  generalize upd _ p1 _ = G1 at s1 ⊢
  replace hx := hx.ext s1
  replace S := same_trans S s1
  walk_at "hx"
  try refine g_true (by decide) ?_
  walk_at "hgo"
  refine ⟨a, c 10, _, y, rfl, L.ask 10 (by decide), L.no 10 (by decide) "reason" (by decide +kernel), hx, look1 _ _, ?_⟩
  walk_at "hgo"
  intro p n zz
  walk_at "hgo"
  exact k p _ (same_trans S (same_new n)) zz upd_same
theorem go_fields11 {cdv : Value} {A : Around} {outer : List Env} {s : Shared} {H : Hp} {Q : VK} {E : XK} {f : Addr} (L : Lay P w K mg base c) (hr : Room 0 (A.deeper (envOfC "_law_fields" (defScope s_law_fields) s.heap.objs.size f cdv))) {a : Addr} {y z : V} (hx : IsE (c 11) (FF (["line", "word"] : List Str) [y, z]) a H)
    (k : ∀ (p : Addr) (H' : Hp), Same H H' → p ≠ sysModules → H' p = some (.lst [y, z]) → Q (.ref p) H') :
    ∃ t, PSs (cxOf CX0 P w K mg base N_law_fields "_law_fields" (defScope s_law_fields) f cdv A outer s H E).nox (defBody s_law_fields) t ∧ t { nx := fun _ H' => Q .non H', rt := Q } (start N_law_fields [.int 11, .ref a]) H := by
  refine ⟨_, (pss_cons (ps_if (pt_cmpR op_in_seq (pv 0) (pe_tup (pa_cons pe_int (pa_cons pe_int (pa_cons pe_int (pa_cons pe_int (pa_cons pe_int (pa_cons pe_int pa_nil))))))) rfl) (pss_one (ps_ret (pe_lstX (pa_cons (pe_fldE (pv 1)) pa_nil)))) pss_nil)
      (pss_cons (ps_if (pt_cmpR op_in_seq (pv 0) (pe_tup (pa_cons pe_int (pa_cons pe_int (pa_cons pe_int pa_nil)))) rfl) (pss_one (ps_ret (pe_lstX (pa_cons (pe_fldE (pv 1)) pa_nil)))) pss_nil)
      (pss_cons (ps_if (pt_cmpR op_eq (pv 0) pe_int (nomark _)) (pss_one (ps_ret (pe_lstX (pa_cons (pe_fldE (pv 1)) (pa_cons (pe_fldE (pv 1)) pa_nil))))) pss_nil)
      (pss_cons (ps_if (pt_cmpR op_eq (pv 0) pe_int (nomark _)) (pss_one (ps_ret (pe_lstX (pa_cons (pe_fldE (pv 1)) pa_nil)))) pss_nil)
      (pss_cons (ps_if (pt_cmpR op_eq (pv 0) pe_int (nomark _)) (pss_one (ps_ret (pe_lstX (pa_cons (pe_fldE (pv 1)) (pa_cons (pe_fldE (pv 1)) pa_nil))))) pss_nil)
      (pss_cons (ps_if (pt_cmpR op_eq (pv 0) pe_int (nomark _)) (pss_one (ps_ret (pe_lstX (pa_cons (pe_fldE (pv 1)) pa_nil)))) pss_nil)
      (pss_cons (ps_if (pt_cmpR op_eq (pv 0) pe_int (nomark _)) (pss_one (ps_ret (pe_lstX (pa_cons (pe_fldE (pv 1)) pa_nil)))) pss_nil)
      (pss_cons (ps_if (pt_cmpR op_eq (pv 0) pe_int (nomark _)) (pss_one (ps_ret (pe_lstX (pa_cons (pe_fldE (pv 1)) pa_nil)))) pss_nil)
      (pss_one (ps_ret (pe_ifExp (pt_cmpR op_eq (pv 0) pe_int (nomark _)) (pe_lstX (pa_cons (pe_fldE (pv 1)) pa_nil)) (pe_lstX pa_nil)))))))))))), ?_⟩
  try dsimp only [cxOf]
  rw [show L2.start N_law_fields [.int 11, .ref a] = [some (.int 11), some (.ref a)] from rfl]
  have S : Same H H := fun _ _ e => e
  walk_at "hgo"
  intro p1 n1
  have s1 := same_new (o := .tup [V.int 1, V.int 2, V.int 4, V.int 5, V.int 6, V.int 10]) n1
  walk_at "hx"
  refine g_inT upd_same rfl rfl ?_
  generalize upd _ p1 _ = G1 at s1 ⊢
  replace hx := hx.ext s1
  replace S := same_trans S s1
  walk_at "hx"
  try refine g_false (by decide) ?_
  walk_at "hgo"
  intro p2 n2
  have s2 := same_new (o := .tup [V.int 8, V.int 9, V.int 13]) n2
  walk_at "hx"
  refine g_inT upd_same rfl rfl ?_
  generalize upd _ p2 _ = G2 at s2 ⊢
  replace hx := hx.ext s2
  replace S := same_trans S s2
  walk_at "hx"
  try refine g_false (by decide) ?_
  walk_at "hgo"
  walk_at "hx"
  try refine g_false (by decide) ?_
  walk_at "hgo"
  walk_at "hx"
  try refine g_false (by decide) ?_
  walk_at "hgo"
  walk_at "hx"
  try refine g_true (by decide) ?_
  walk_at "hgo"
  refine ⟨a, c 11, _, y, rfl, L.ask 11 (by decide), L.no 11 (by decide) "line" (by decide +kernel), hx, look2a _ _ _ _ (by decide +kernel), ?_⟩
  walk_at "hgo"
  refine ⟨a, c 11, _, z, rfl, L.ask 11 (by decide), L.no 11 (by decide) "word" (by decide +kernel), hx, look2b _ _ _ _, ?_⟩
  walk_at "hgo"
  intro p n zz
  walk_at "hgo"
  exact k p _ (same_trans S (same_new n)) zz upd_same
theorem go_fields12 {cdv : Value} {A : Around} {outer : List Env} {s : Shared} {H : Hp} {Q : VK} {E : XK} {f : Addr} (L : Lay P w K mg base c) (hr : Room 0 (A.deeper (envOfC "_law_fields" (defScope s_law_fields) s.heap.objs.size f cdv))) {a : Addr} {y : V} (hx : IsE (c 12) (FF (["word"] : List Str) [y]) a H)
    (k : ∀ (p : Addr) (H' : Hp), Same H H' → p ≠ sysModules → H' p = some (.lst [y]) → Q (.ref p) H') :
    ∃ t, PSs (cxOf CX0 P w K mg base N_law_fields "_law_fields" (defScope s_law_fields) f cdv A outer s H E).nox (defBody s_law_fields) t ∧ t { nx := fun _ H' => Q .non H', rt := Q } (start N_law_fields [.int 12, .ref a]) H := by
  refine ⟨_, (pss_cons (ps_if (pt_cmpR op_in_seq (pv 0) (pe_tup (pa_cons pe_int (pa_cons pe_int (pa_cons pe_int (pa_cons pe_int (pa_cons pe_int (pa_cons pe_int pa_nil))))))) rfl) (pss_one (ps_ret (pe_lstX (pa_cons (pe_fldE (pv 1)) pa_nil)))) pss_nil)
      (pss_cons (ps_if (pt_cmpR op_in_seq (pv 0) (pe_tup (pa_cons pe_int (pa_cons pe_int (pa_cons pe_int pa_nil)))) rfl) (pss_one (ps_ret (pe_lstX (pa_cons (pe_fldE (pv 1)) pa_nil)))) pss_nil)
      (pss_cons (ps_if (pt_cmpR op_eq (pv 0) pe_int (nomark _)) (pss_one (ps_ret (pe_lstX (pa_cons (pe_fldE (pv 1)) (pa_cons (pe_fldE (pv 1)) pa_nil))))) pss_nil)
      (pss_cons (ps_if (pt_cmpR op_eq (pv 0) pe_int (nomark _)) (pss_one (ps_ret (pe_lstX (pa_cons (pe_fldE (pv 1)) pa_nil)))) pss_nil)
      (pss_cons (ps_if (pt_cmpR op_eq (pv 0) pe_int (nomark _)) (pss_one (ps_ret (pe_lstX (pa_cons (pe_fldE (pv 1)) (pa_cons (pe_fldE (pv 1)) pa_nil))))) pss_nil)
      (pss_cons (ps_if (pt_cmpR op_eq (pv 0) pe_int (nomark _)) (pss_one (ps_ret (pe_lstX (pa_cons (pe_fldE (pv 1)) pa_nil)))) pss_nil)
      (pss_cons (ps_if (pt_cmpR op_eq (pv 0) pe_int (nomark _)) (pss_one (ps_ret (pe_lstX (pa_cons (pe_fldE (pv 1)) pa_nil)))) pss_nil)
      (pss_cons (ps_if (pt_cmpR op_eq (pv 0) pe_int (nomark _)) (pss_one (ps_ret (pe_lstX (pa_cons (pe_fldE (pv 1)) pa_nil)))) pss_nil)
      (pss_one (ps_ret (pe_ifExp (pt_cmpR op_eq (pv 0) pe_int (nomark _)) (pe_lstX (pa_cons (pe_fldE (pv 1)) pa_nil)) (pe_lstX pa_nil)))))))))))), ?_⟩
  try dsimp only [cxOf]
  rw [show L2.start N_law_fields [.int 12, .ref a] = [some (.int 12), some (.ref a)] from rfl]
  have S : Same H H := fun _ _ e => e
  walk_at "hgo"
  intro p1 n1
  have s1 := same_new (o := .tup [V.int 1, V.int 2, V.int 4, V.int 5, V.int 6, V.int 10]) n1
  walk_at "hx"
  refine g_inT upd_same rfl rfl ?_
  generalize upd _ p1 _ = G1 at s1 ⊢
  replace hx := hx.ext s1
  replace S := same_trans S s1
  walk_at "hx"
  try refine g_false (by decide) ?_
  walk_at "hgo"
  intro p2 n2
  have s2 := same_new (o := .tup [V.int 8, V.int 9, V.int 13]) n2
  walk_at "hx"
  refine g_inT upd_same rfl rfl ?_
  generalize upd _ p2 _ = G2 at s2 ⊢
  replace hx := hx.ext s2
  replace S := same_trans S s2
  walk_at "hx"
  try refine g_false (by decide) ?_
  walk_at "hgo"
  walk_at "hx"
  try refine g_false (by decide) ?_
  walk_at "hgo"
  walk_at "hx"
  try refine g_false (by decide) ?_
  walk_at "hgo"
  walk_at "hx"
  try refine g_false (by decide) ?_
  walk_at "hgo"
  walk_at "hx"
  try refine g_true (by decide) ?_
  walk_at "hgo"
  refine ⟨a, c 12, _, y, rfl, L.ask 12 (by decide), L.no 12 (by decide) "word" (by decide +kernel), hx, look1 _ _, ?_⟩
  walk_at "hgo"
  intro p n zz
  walk_at "hgo"
  exact k p _ (same_trans S (same_new n)) zz upd_same
theorem go_fields13 {cdv : Value} {A : Around} {outer : List Env} {s : Shared} {H : Hp} {Q : VK} {E : XK} {f : Addr} (L : Lay P w K mg base c) (hr : Room 0 (A.deeper (envOfC "_law_fields" (defScope s_law_fields) s.heap.objs.size f cdv))) {a : Addr} {y : V} (hx : IsE (c 13) (FF (["name"] : List Str) [y]) a H)
    (k : ∀ (p : Addr) (H' : Hp), Same H H' → p ≠ sysModules → H' p = some (.lst [y]) → Q (.ref p) H') :
    ∃ t, PSs (cxOf CX0 P w K mg base N_law_fields "_law_fields" (defScope s_law_fields) f cdv A outer s H E).nox (defBody s_law_fields) t ∧ t { nx := fun _ H' => Q .non H', rt := Q } (start N_law_fields [.int 13, .ref a]) H := by
  refine ⟨_, (pss_cons (ps_if (pt_cmpR op_in_seq (pv 0) (pe_tup (pa_cons pe_int (pa_cons pe_int (pa_cons pe_int (pa_cons pe_int (pa_cons pe_int (pa_cons pe_int pa_nil))))))) rfl) (pss_one (ps_ret (pe_lstX (pa_cons (pe_fldE (pv 1)) pa_nil)))) pss_nil)
      (pss_cons (ps_if (pt_cmpR op_in_seq (pv 0) (pe_tup (pa_cons pe_int (pa_cons pe_int (pa_cons pe_int pa_nil)))) rfl) (pss_one (ps_ret (pe_lstX (pa_cons (pe_fldE (pv 1)) pa_nil)))) pss_nil)
      (pss_cons (ps_if (pt_cmpR op_eq (pv 0) pe_int (nomark _)) (pss_one (ps_ret (pe_lstX (pa_cons (pe_fldE (pv 1)) (pa_cons (pe_fldE (pv 1)) pa_nil))))) pss_nil)
      (pss_cons (ps_if (pt_cmpR op_eq (pv 0) pe_int (nomark _)) (pss_one (ps_ret (pe_lstX (pa_cons (pe_fldE (pv 1)) pa_nil)))) pss_nil)
      (pss_cons (ps_if (pt_cmpR op_eq (pv 0) pe_int (nomark _)) (pss_one (ps_ret (pe_lstX (pa_cons (pe_fldE (pv 1)) (pa_cons (pe_fldE (pv 1)) pa_nil))))) pss_nil)
      (pss_cons (ps_if (pt_cmpR op_eq (pv 0) pe_int (nomark _)) (pss_one (ps_ret (pe_lstX (pa_cons (pe_fldE (pv 1)) pa_nil)))) pss_nil)
      (pss_cons (ps_if (pt_cmpR op_eq (pv 0) pe_int (nomark _)) (pss_one (ps_ret (pe_lstX (pa_cons (pe_fldE (pv 1)) pa_nil)))) pss_nil)
      (pss_cons (ps_if (pt_cmpR op_eq (pv 0) pe_int (nomark _)) (pss_one (ps_ret (pe_lstX (pa_cons (pe_fldE (pv 1)) pa_nil)))) pss_nil)
      (pss_one (ps_ret (pe_ifExp (pt_cmpR op_eq (pv 0) pe_int (nomark _)) (pe_lstX (pa_cons (pe_fldE (pv 1)) pa_nil)) (pe_lstX pa_nil)))))))))))), ?_⟩
  try dsimp only [cxOf]
  rw [show L2.start N_law_fields [.int 13, .ref a] = [some (.int 13), some (.ref a)] from rfl]
  have S : Same H H := fun _ _ e => e
  walk_at "hgo"
  intro p1 n1
  have s1 := same_new (o := .tup [V.int 1, V.int 2, V.int 4, V.int 5, V.int 6, V.int 10]) n1
  walk_at "hx"
  refine g_inT upd_same rfl rfl ?_
  generalize upd _ p1 _ = G1 at s1 ⊢
  replace hx := hx.ext s1
  replace S := same_trans S s1
  walk_at "hx"
  try refine g_false (by decide) ?_
  walk_at "hgo"
  intro p2 n2
  have s2 := same_new (o := .tup [V.int 8, V.int 9, V.int 13]) n2
  walk_at "hx"
  refine g_inT upd_same rfl rfl ?_
  generalize upd _ p2 _ = G2 at s2 ⊢
  replace hx := hx.ext s2
  replace S := same_trans S s2
  walk_at "hx"
  try refine g_true (by decide) ?_
  walk_at "hgo"
  refine ⟨a, c 13, _, y, rfl, L.ask 13 (by decide), L.no 13 (by decide) "name" (by decide +kernel), hx, look1 _ _, ?_⟩
  walk_at "hgo"
  intro p n zz
  walk_at "hgo"
  exact k p _ (same_trans S (same_new n)) zz upd_same
theorem go_fields14 {cdv : Value} {A : Around} {outer : List Env} {s : Shared} {H : Hp} {Q : VK} {E : XK} {f : Addr} (L : Lay P w K mg base c) (hr : Room 0 (A.deeper (envOfC "_law_fields" (defScope s_law_fields) s.heap.objs.size f cdv))) {a : Addr} {y : V} (hx : IsE (c 14) (FF (["number"] : List Str) [y]) a H)
    (k : ∀ (p : Addr) (H' : Hp), Same H H' → p ≠ sysModules → H' p = some (.lst [y]) → Q (.ref p) H') :
    ∃ t, PSs (cxOf CX0 P w K mg base N_law_fields "_law_fields" (defScope s_law_fields) f cdv A outer s H E).nox (defBody s_law_fields) t ∧ t { nx := fun _ H' => Q .non H', rt := Q } (start N_law_fields [.int 14, .ref a]) H := by
  refine ⟨_, (pss_cons (ps_if (pt_cmpR op_in_seq (pv 0) (pe_tup (pa_cons pe_int (pa_cons pe_int (pa_cons pe_int (pa_cons pe_int (pa_cons pe_int (pa_cons pe_int pa_nil))))))) rfl) (pss_one (ps_ret (pe_lstX (pa_cons (pe_fldE (pv 1)) pa_nil)))) pss_nil)
      (pss_cons (ps_if (pt_cmpR op_in_seq (pv 0) (pe_tup (pa_cons pe_int (pa_cons pe_int (pa_cons pe_int pa_nil)))) rfl) (pss_one (ps_ret (pe_lstX (pa_cons (pe_fldE (pv 1)) pa_nil)))) pss_nil)
      (pss_cons (ps_if (pt_cmpR op_eq (pv 0) pe_int (nomark _)) (pss_one (ps_ret (pe_lstX (pa_cons (pe_fldE (pv 1)) (pa_cons (pe_fldE (pv 1)) pa_nil))))) pss_nil)
      (pss_cons (ps_if (pt_cmpR op_eq (pv 0) pe_int (nomark _)) (pss_one (ps_ret (pe_lstX (pa_cons (pe_fldE (pv 1)) pa_nil)))) pss_nil)
      (pss_cons (ps_if (pt_cmpR op_eq (pv 0) pe_int (nomark _)) (pss_one (ps_ret (pe_lstX (pa_cons (pe_fldE (pv 1)) (pa_cons (pe_fldE (pv 1)) pa_nil))))) pss_nil)
      (pss_cons (ps_if (pt_cmpR op_eq (pv 0) pe_int (nomark _)) (pss_one (ps_ret (pe_lstX (pa_cons (pe_fldE (pv 1)) pa_nil)))) pss_nil)
      (pss_cons (ps_if (pt_cmpR op_eq (pv 0) pe_int (nomark _)) (pss_one (ps_ret (pe_lstX (pa_cons (pe_fldE (pv 1)) pa_nil)))) pss_nil)
      (pss_cons (ps_if (pt_cmpR op_eq (pv 0) pe_int (nomark _)) (pss_one (ps_ret (pe_lstX (pa_cons (pe_fldE (pv 1)) pa_nil)))) pss_nil)
      (pss_one (ps_ret (pe_ifExp (pt_cmpR op_eq (pv 0) pe_int (nomark _)) (pe_lstX (pa_cons (pe_fldE (pv 1)) pa_nil)) (pe_lstX pa_nil)))))))))))), ?_⟩
  try dsimp only [cxOf]
  rw [show L2.start N_law_fields [.int 14, .ref a] = [some (.int 14), some (.ref a)] from rfl]
  have S : Same H H := fun _ _ e => e
  walk_at "hgo"
  intro p1 n1
  have s1 := same_new (o := .tup [V.int 1, V.int 2, V.int 4, V.int 5, V.int 6, V.int 10]) n1
  walk_at "hx"
  refine g_inT upd_same rfl rfl ?_
  generalize upd _ p1 _ = G1 at s1 ⊢
  replace hx := hx.ext s1
  replace S := same_trans S s1
  walk_at "hx"
  try refine g_false (by decide) ?_
  walk_at "hgo"
  intro p2 n2
  have s2 := same_new (o := .tup [V.int 8, V.int 9, V.int 13]) n2
  walk_at "hx"
  refine g_inT upd_same rfl rfl ?_
  generalize upd _ p2 _ = G2 at s2 ⊢
  replace hx := hx.ext s2
  replace S := same_trans S s2
  walk_at "hx"
  try refine g_false (by decide) ?_
  walk_at "hgo"
  walk_at "hx"
  try refine g_false (by decide) ?_
  walk_at "hgo"
  walk_at "hx"
  try refine g_false (by decide) ?_
  walk_at "hgo"
  walk_at "hx"
  try refine g_false (by decide) ?_
  walk_at "hgo"
  walk_at "hx"
  try refine g_false (by decide) ?_
  walk_at "hgo"
  walk_at "hx"
  try refine g_true (by decide) ?_
  walk_at "hgo"
  refine ⟨a, c 14, _, y, rfl, L.ask 14 (by decide), L.no 14 (by decide) "number" (by decide +kernel), hx, look1 _ _, ?_⟩
  walk_at "hgo"
  intro p n zz
  walk_at "hgo"
  exact k p _ (same_trans S (same_new n)) zz upd_same
theorem go_fields15 {cdv : Value} {A : Around} {outer : List Env} {s : Shared} {H : Hp} {Q : VK} {E : XK} {f : Addr} (L : Lay P w K mg base c) (hr : Room 0 (A.deeper (envOfC "_law_fields" (defScope s_law_fields) s.heap.objs.size f cdv))) {a : Addr} {y : V} (hx : IsE (c 15) (FF (["limit"] : List Str) [y]) a H)
    (k : ∀ (p : Addr) (H' : Hp), Same H H' → p ≠ sysModules → H' p = some (.lst [y]) → Q (.ref p) H') :
    ∃ t, PSs (cxOf CX0 P w K mg base N_law_fields "_law_fields" (defScope s_law_fields) f cdv A outer s H E).nox (defBody s_law_fields) t ∧ t { nx := fun _ H' => Q .non H', rt := Q } (start N_law_fields [.int 15, .ref a]) H := by
  refine ⟨_, (pss_cons (ps_if (pt_cmpR op_in_seq (pv 0) (pe_tup (pa_cons pe_int (pa_cons pe_int (pa_cons pe_int (pa_cons pe_int (pa_cons pe_int (pa_cons pe_int pa_nil))))))) rfl) (pss_one (ps_ret (pe_lstX (pa_cons (pe_fldE (pv 1)) pa_nil)))) pss_nil)
      (pss_cons (ps_if (pt_cmpR op_in_seq (pv 0) (pe_tup (pa_cons pe_int (pa_cons pe_int (pa_cons pe_int pa_nil)))) rfl) (pss_one (ps_ret (pe_lstX (pa_cons (pe_fldE (pv 1)) pa_nil)))) pss_nil)
      (pss_cons (ps_if (pt_cmpR op_eq (pv 0) pe_int (nomark _)) (pss_one (ps_ret (pe_lstX (pa_cons (pe_fldE (pv 1)) (pa_cons (pe_fldE (pv 1)) pa_nil))))) pss_nil)
      (pss_cons (ps_if (pt_cmpR op_eq (pv 0) pe_int (nomark _)) (pss_one (ps_ret (pe_lstX (pa_cons (pe_fldE (pv 1)) pa_nil)))) pss_nil)
      (pss_cons (ps_if (pt_cmpR op_eq (pv 0) pe_int (nomark _)) (pss_one (ps_ret (pe_lstX (pa_cons (pe_fldE (pv 1)) (pa_cons (pe_fldE (pv 1)) pa_nil))))) pss_nil)
      (pss_cons (ps_if (pt_cmpR op_eq (pv 0) pe_int (nomark _)) (pss_one (ps_ret (pe_lstX (pa_cons (pe_fldE (pv 1)) pa_nil)))) pss_nil)
      (pss_cons (ps_if (pt_cmpR op_eq (pv 0) pe_int (nomark _)) (pss_one (ps_ret (pe_lstX (pa_cons (pe_fldE (pv 1)) pa_nil)))) pss_nil)
      (pss_cons (ps_if (pt_cmpR op_eq (pv 0) pe_int (nomark _)) (pss_one (ps_ret (pe_lstX (pa_cons (pe_fldE (pv 1)) pa_nil)))) pss_nil)
      (pss_one (ps_ret (pe_ifExp (pt_cmpR op_eq (pv 0) pe_int (nomark _)) (pe_lstX (pa_cons (pe_fldE (pv 1)) pa_nil)) (pe_lstX pa_nil)))))))))))), ?_⟩
  try dsimp only [cxOf]
  rw [show L2.start N_law_fields [.int 15, .ref a] = [some (.int 15), some (.ref a)] from rfl]
  have S : Same H H := fun _ _ e => e
  walk_at "hgo"
  intro p1 n1
  have s1 := same_new (o := .tup [V.int 1, V.int 2, V.int 4, V.int 5, V.int 6, V.int 10]) n1
  walk_at "hx"
  refine g_inT upd_same rfl rfl ?_
  generalize upd _ p1 _ = G1 at s1 ⊢
  replace hx := hx.ext s1
  replace S := same_trans S s1
  walk_at "hx"
  try refine g_false (by decide) ?_
  walk_at "hgo"
  intro p2 n2
  have s2 := same_new (o := .tup [V.int 8, V.int 9, V.int 13]) n2
  walk_at "hx"
  refine g_inT upd_same rfl rfl ?_
  generalize upd _ p2 _ = G2 at s2 ⊢
  replace hx := hx.ext s2
  replace S := same_trans S s2
  walk_at "hx"
  try refine g_false (by decide) ?_
  walk_at "hgo"
  walk_at "hx"
  try refine g_false (by decide) ?_
  walk_at "hgo"
  walk_at "hx"
  try refine g_false (by decide) ?_
  walk_at "hgo"
  walk_at "hx"
  try refine g_false (by decide) ?_
  walk_at "hgo"
  walk_at "hx"
  try refine g_false (by decide) ?_
  walk_at "hgo"
  walk_at "hx"
  try refine g_false (by decide) ?_
  walk_at "hgo"
  walk_at "hx"
  try refine g_true (by decide) ?_
  walk_at "hgo"
  refine ⟨a, c 15, _, y, rfl, L.ask 15 (by decide), L.no 15 (by decide) "limit" (by decide +kernel), hx, look1 _ _, ?_⟩
  walk_at "hgo"
  intro p n zz
  walk_at "hgo"
  exact k p _ (same_trans S (same_new n)) zz upd_same
theorem go_fields16 {cdv : Value} {A : Around} {outer : List Env} {s : Shared} {H : Hp} {Q : VK} {E : XK} {f : Addr} (L : Lay P w K mg base c) (hr : Room 0 (A.deeper (envOfC "_law_fields" (defScope s_law_fields) s.heap.objs.size f cdv))) {a : Addr} {y : V} (hx : IsE (c 16) (FF (["count"] : List Str) [y]) a H)
    (k : ∀ (p : Addr) (H' : Hp), Same H H' → p ≠ sysModules → H' p = some (.lst [y]) → Q (.ref p) H') :
    ∃ t, PSs (cxOf CX0 P w K mg base N_law_fields "_law_fields" (defScope s_law_fields) f cdv A outer s H E).nox (defBody s_law_fields) t ∧ t { nx := fun _ H' => Q .non H', rt := Q } (start N_law_fields [.int 16, .ref a]) H := by
  refine ⟨_, (pss_cons (ps_if (pt_cmpR op_in_seq (pv 0) (pe_tup (pa_cons pe_int (pa_cons pe_int (pa_cons pe_int (pa_cons pe_int (pa_cons pe_int (pa_cons pe_int pa_nil))))))) rfl) (pss_one (ps_ret (pe_lstX (pa_cons (pe_fldE (pv 1)) pa_nil)))) pss_nil)
      (pss_cons (ps_if (pt_cmpR op_in_seq (pv 0) (pe_tup (pa_cons pe_int (pa_cons pe_int (pa_cons pe_int pa_nil)))) rfl) (pss_one (ps_ret (pe_lstX (pa_cons (pe_fldE (pv 1)) pa_nil)))) pss_nil)
      (pss_cons (ps_if (pt_cmpR op_eq (pv 0) pe_int (nomark _)) (pss_one (ps_ret (pe_lstX (pa_cons (pe_fldE (pv 1)) (pa_cons (pe_fldE (pv 1)) pa_nil))))) pss_nil)
      (pss_cons (ps_if (pt_cmpR op_eq (pv 0) pe_int (nomark _)) (pss_one (ps_ret (pe_lstX (pa_cons (pe_fldE (pv 1)) pa_nil)))) pss_nil)
      (pss_cons (ps_if (pt_cmpR op_eq (pv 0) pe_int (nomark _)) (pss_one (ps_ret (pe_lstX (pa_cons (pe_fldE (pv 1)) (pa_cons (pe_fldE (pv 1)) pa_nil))))) pss_nil)
      (pss_cons (ps_if (pt_cmpR op_eq (pv 0) pe_int (nomark _)) (pss_one (ps_ret (pe_lstX (pa_cons (pe_fldE (pv 1)) pa_nil)))) pss_nil)
      (pss_cons (ps_if (pt_cmpR op_eq (pv 0) pe_int (nomark _)) (pss_one (ps_ret (pe_lstX (pa_cons (pe_fldE (pv 1)) pa_nil)))) pss_nil)
      (pss_cons (ps_if (pt_cmpR op_eq (pv 0) pe_int (nomark _)) (pss_one (ps_ret (pe_lstX (pa_cons (pe_fldE (pv 1)) pa_nil)))) pss_nil)
      (pss_one (ps_ret (pe_ifExp (pt_cmpR op_eq (pv 0) pe_int (nomark _)) (pe_lstX (pa_cons (pe_fldE (pv 1)) pa_nil)) (pe_lstX pa_nil)))))))))))), ?_⟩
  try dsimp only [cxOf]
  rw [show L2.start N_law_fields [.int 16, .ref a] = [some (.int 16), some (.ref a)] from rfl]
  have S : Same H H := fun _ _ e => e
  walk_at "hgo"
  intro p1 n1
  have s1 := same_new (o := .tup [V.int 1, V.int 2, V.int 4, V.int 5, V.int 6, V.int 10]) n1
  walk_at "hx"
  refine g_inT upd_same rfl rfl ?_
  generalize upd _ p1 _ = G1 at s1 ⊢
  replace hx := hx.ext s1
  replace S := same_trans S s1
  walk_at "hx"
  try refine g_false (by decide) ?_
  walk_at "hgo"
  intro p2 n2
  have s2 := same_new (o := .tup [V.int 8, V.int 9, V.int 13]) n2
  walk_at "hx"
  refine g_inT upd_same rfl rfl ?_
  generalize upd _ p2 _ = G2 at s2 ⊢
  replace hx := hx.ext s2
  replace S := same_trans S s2
  walk_at "hx"
  try refine g_false (by decide) ?_
  walk_at "hgo"
  walk_at "hx"
  try refine g_false (by decide) ?_
  walk_at "hgo"
  walk_at "hx"
  try refine g_false (by decide) ?_
  walk_at "hgo"
  walk_at "hx"
  try refine g_false (by decide) ?_
  walk_at "hgo"
  walk_at "hx"
  try refine g_false (by decide) ?_
  walk_at "hgo"
  walk_at "hx"
  try refine g_false (by decide) ?_
  walk_at "hgo"
  walk_at "hx"
  try refine g_false (by decide) ?_
  walk_at "hgo"
  walk_at "hx"
  try refine g_true (by decide) ?_
  walk_at "hgo"
  refine ⟨a, c 16, _, y, rfl, L.ask 16 (by decide), L.no 16 (by decide) "count" (by decide +kernel), hx, look1 _ _, ?_⟩
  walk_at "hgo"
  intro p n zz
  walk_at "hgo"
  exact k p _ (same_trans S (same_new n)) zz upd_same
theorem ok_law_fields {f : Addr} {fd : FuncData} (F : Fun K "_law_fields" "_law_fields" s_law_fields f fd) (L : Lay P w K mg base c) : FnOk P w K mg base CX0 1 f fd ["_law_k", "_law_caught"] (spFields c) := by
  refine F.ok sc_law_fields (fun vs H Q E h => ?_) (fun cdv A outer s H vs Q E hr h => ?_)
  · obtain ⟨i, a, ys, rfl, _⟩ := h
    rfl
  · obtain ⟨i, a, ys, rfl, hi, hx, hl, k⟩ := h
    have jj : i = 0 ∨ i = 1 ∨ i = 2 ∨ i = 3 ∨ i = 4 ∨ i = 5 ∨ i = 6 ∨ i = 7 ∨ i = 8 ∨ i = 9 ∨ i = 10 ∨ i = 11 ∨ i = 12 ∨ i = 13 ∨ i = 14 ∨ i = 15 ∨ i = 16 := by omega
    rcases jj with rfl | rfl | rfl | rfl | rfl | rfl | rfl | rfl | rfl | rfl | rfl | rfl | rfl | rfl | rfl | rfl | rfl
    · rw [fd0] at hx hl
      match ys, hl with
      | [], _ => exact go_fields0 L hr hx k
    · rw [fd1] at hx hl
      match ys, hl with
      | [y], _ => exact go_fields1 L hr hx k
    · rw [fd2] at hx hl
      match ys, hl with
      | [y], _ => exact go_fields2 L hr hx k
    · rw [fd3] at hx hl
      match ys, hl with
      | [y, z], _ => exact go_fields3 L hr hx k
    · rw [fd4] at hx hl
      match ys, hl with
      | [y], _ => exact go_fields4 L hr hx k
    · rw [fd5] at hx hl
      match ys, hl with
      | [y], _ => exact go_fields5 L hr hx k
    · rw [fd6] at hx hl
      match ys, hl with
      | [y], _ => exact go_fields6 L hr hx k
    · rw [fd7] at hx hl
      match ys, hl with
      | [y], _ => exact go_fields7 L hr hx k
    · rw [fd8] at hx hl
      match ys, hl with
      | [y], _ => exact go_fields8 L hr hx k
    · rw [fd9] at hx hl
      match ys, hl with
      | [y], _ => exact go_fields9 L hr hx k
    · rw [fd10] at hx hl
      match ys, hl with
      | [y], _ => exact go_fields10 L hr hx k
    · rw [fd11] at hx hl
      match ys, hl with
      | [y, z], _ => exact go_fields11 L hr hx k
    · rw [fd12] at hx hl
      match ys, hl with
      | [y], _ => exact go_fields12 L hr hx k
    · rw [fd13] at hx hl
      match ys, hl with
      | [y], _ => exact go_fields13 L hr hx k
    · rw [fd14] at hx hl
      match ys, hl with
      | [y], _ => exact go_fields14 L hr hx k
    · rw [fd15] at hx hl
      match ys, hl with
      | [y], _ => exact go_fields15 L hr hx k
    · rw [fd16] at hx hl
      match ys, hl with
      | [y], _ => exact go_fields16 L hr hx k
end

def ownL (i : Nat) : List Nat := if i < 17 then [i] else []
theorem own_is : ∀ i < 19, (List.range 17).filter (fun j => decide (i = j)) = ownL i := by decide
def spOwn (c : Nat → Addr) : Sp := fun vs H Q _ => ∃ (a : Addr) (i : Nat) (fs : List (Str × V)), vs = [.ref a] ∧ i < 19 ∧ IsE (c i) fs a H ∧ ∀ (p : Addr) (H' : Hp), Same H H' → H' p = some (.lst ((ownL i).map fun (j : Nat) => V.int (j : Int))) → Q (.ref p) H'
structure TxtO (mg : Str → Option Value) : Prop where
  isinstance : mg "isinstance" = none
  range : mg "range" = none
  ValueError : mg "ValueError" = none
  LookupError : mg "LookupError" = none
  OverflowError : mg "OverflowError" = none
  IndexError : mg "IndexError" = none
theorem g_bm {K : PySem.W.Frag} {T : String} {r : V → List V → Hp → VK → Prop} {to : TE} {t : TA} {σ : L2.St} {H : Hp} {Q : VK} (h : to σ H fun x H1 => tyV K T x H1 ∧ t σ H1 fun xs H2 => r x xs H2 Q) : tBM K T r to t σ H Q := h
theorem flag_at {i m : Nat} (hm : m < 17) : atI ((List.range 17).map fun j => V.bl (decide (i = j))) (0 + (m : Int)) = some (.bl (decide (i = m))) := by
  rw [Int.zero_add]
  refine atI_nat ?_
  rw [List.getElem?_map, List.getElem?_range hm]
  rfl
section
variable {P : Program} {w : World} {K : PySem.W.Frag} {mg : Str → Option Value} {base : Heap} {c : Nat → Addr}
theorem ok_law_own {f : Addr} {fd : FuncData} (F : Fun K "_law_own" "_law_own" s_law_own f fd) (L : Lay P w K mg base c) (T : TxtO mg) : FnOk P w K mg base CX0 1 f fd ["_law_caught"] (spOwn c) := by
  refine F.ok sc_law_own (fun vs H Q E h => ?_) (fun cdv A outer s H vs Q E hr h => ?_)
  · obtain ⟨a, i, fs, rfl, _⟩ := h
    rfl
  · obtain ⟨a, i, fs, rfl, hi, hx, k⟩ := h
    refine ⟨_, (pss_cons (ps_set (i := 1) sc_law_own.nd rfl (Or.inr rfl) (pe_lst (pa_cons (pe_callB call_askE (by rfl) T.isinstance (by decide +kernel) (pa_cons (pv 0) (pa_cons (pe_glob (v := .ref (c 0)) (by rfl) (L.glob 0 (by decide)) rfl) pa_nil))) (pa_cons (pe_callB call_askE (by rfl) T.isinstance (by decide +kernel) (pa_cons (pv 0) (pa_cons (pe_glob (v := .ref (c 1)) (by rfl) (L.glob 1 (by decide)) rfl) pa_nil))) (pa_cons (pe_callB call_askE (by rfl) T.isinstance (by decide +kernel) (pa_cons (pv 0) (pa_cons (pe_glob (v := .ref (c 2)) (by rfl) (L.glob 2 (by decide)) rfl) pa_nil))) pa_nil)))))
      (pss_cons (ps_set (i := 1) sc_law_own.nd rfl (Or.inr rfl) (pe_op op_cat (pv 1) (pe_lst (pa_cons (pe_callB call_askE (by rfl) T.isinstance (by decide +kernel) (pa_cons (pv 0) (pa_cons (pe_glob (v := .ref (c 3)) (by rfl) (L.glob 3 (by decide)) rfl) pa_nil))) (pa_cons (pe_callB call_askE (by rfl) T.isinstance (by decide +kernel) (pa_cons (pv 0) (pa_cons (pe_glob (v := .ref (c 4)) (by rfl) (L.glob 4 (by decide)) rfl) pa_nil))) pa_nil)))))
      (pss_cons (ps_set (i := 1) sc_law_own.nd rfl (Or.inr rfl) (pe_op op_cat (pv 1) (pe_lst (pa_cons (pe_callB call_askE (by rfl) T.isinstance (by decide +kernel) (pa_cons (pv 0) (pa_cons (pe_glob (v := .ref (c 5)) (by rfl) (L.glob 5 (by decide)) rfl) pa_nil))) (pa_cons (pe_callB call_askE (by rfl) T.isinstance (by decide +kernel) (pa_cons (pv 0) (pa_cons (pe_glob (v := .ref (c 6)) (by rfl) (L.glob 6 (by decide)) rfl) pa_nil))) pa_nil)))))
      (pss_cons (ps_set (i := 1) sc_law_own.nd rfl (Or.inr rfl) (pe_op op_cat (pv 1) (pe_lst (pa_cons (pe_callB call_askE (by rfl) T.isinstance (by decide +kernel) (pa_cons (pv 0) (pa_cons (pe_glob (v := .ref (c 7)) (by rfl) (L.glob 7 (by decide)) rfl) pa_nil))) (pa_cons (pe_callB call_askE (by rfl) T.isinstance (by decide +kernel) (pa_cons (pv 0) (pa_cons (pe_glob (v := .ref (c 8)) (by rfl) (L.glob 8 (by decide)) rfl) pa_nil))) pa_nil)))))
      (pss_cons (ps_set (i := 1) sc_law_own.nd rfl (Or.inr rfl) (pe_op op_cat (pv 1) (pe_lst (pa_cons (pe_callB call_askE (by rfl) T.isinstance (by decide +kernel) (pa_cons (pv 0) (pa_cons (pe_glob (v := .ref (c 9)) (by rfl) (L.glob 9 (by decide)) rfl) pa_nil))) (pa_cons (pe_callB call_askE (by rfl) T.isinstance (by decide +kernel) (pa_cons (pv 0) (pa_cons (pe_glob (v := .ref (c 10)) (by rfl) (L.glob 10 (by decide)) rfl) pa_nil))) pa_nil)))))
      (pss_cons (ps_set (i := 1) sc_law_own.nd rfl (Or.inr rfl) (pe_op op_cat (pv 1) (pe_lst (pa_cons (pe_callB call_askE (by rfl) T.isinstance (by decide +kernel) (pa_cons (pv 0) (pa_cons (pe_glob (v := .ref (c 11)) (by rfl) (L.glob 11 (by decide)) rfl) pa_nil))) (pa_cons (pe_callB call_askE (by rfl) T.isinstance (by decide +kernel) (pa_cons (pv 0) (pa_cons (pe_glob (v := .ref (c 12)) (by rfl) (L.glob 12 (by decide)) rfl) pa_nil))) pa_nil)))))
      (pss_cons (ps_set (i := 1) sc_law_own.nd rfl (Or.inr rfl) (pe_op op_cat (pv 1) (pe_lst (pa_cons (pe_callB call_askE (by rfl) T.isinstance (by decide +kernel) (pa_cons (pv 0) (pa_cons (pe_glob (v := .ref (c 13)) (by rfl) (L.glob 13 (by decide)) rfl) pa_nil))) (pa_cons (pe_callB call_askE (by rfl) T.isinstance (by decide +kernel) (pa_cons (pv 0) (pa_cons (pe_glob (v := .ref (c 14)) (by rfl) (L.glob 14 (by decide)) rfl) pa_nil))) (pa_cons (pe_callB call_askE (by rfl) T.isinstance (by decide +kernel) (pa_cons (pv 0) (pa_cons (pe_glob (v := .ref (c 15)) (by rfl) (L.glob 15 (by decide)) rfl) pa_nil))) pa_nil))))))
      (pss_cons (ps_expr (pe_bm PySem.F.plainAttrs_list PySem.F.slot_list_append PySem.F.type_list_append mt_append (pv 1) (pa_cons (pe_callB call_askE (by rfl) T.isinstance (by decide +kernel) (pa_cons (pv 0) (pa_cons (pe_glob (v := .ref (c 16)) (by rfl) (L.glob 16 (by decide)) rfl) pa_nil))) pa_nil)))
      (pss_one (ps_ret (pe_lc (own := [("_law_k", 2)]) (g := gName 2) rfl sc_law_own.nd (pi_range1 rfl T.range (pa_cons pe_int pa_nil)) (blkOk_by (own := [("_law_k", 2)]) (N := N_law_own) (sc := defScope s_law_own) (by decide +kernel)) (fun _ _ _ _ _ => pg_name (i := 2) sc_law_own.nd rfl (Or.inl rfl)) (fun _ _ _ _ _ => (pts_one (pt_val (pe_ix (show IxR _ (rIxL K) from ix_list) (pv 1) (pv 2) (fun _ _ => rfl))))) (fun _ _ _ _ _ => (pv 2))))))))))))), ?_⟩
    try dsimp only [cxOf]
    rw [show L2.start N_law_own [.ref a] = [some (.ref a), none, none] from rfl]
    have S : Same H H := fun _ _ e => e
    walk_at "hgo"
    refine g_askE L hi (by decide) hx ?_
    walk_at "hgo"
    refine g_askE L hi (by decide) hx ?_
    walk_at "hgo"
    refine g_askE L hi (by decide) hx ?_
    walk_at "hgo"
    intro p0 q0
    have s0 := same_new (o := .lst [.bl (decide (i = 0)), .bl (decide (i = 1)), .bl (decide (i = 2))]) q0
    have l0 : upd H p0 (.lst [.bl (decide (i = 0)), .bl (decide (i = 1)), .bl (decide (i = 2))]) p0 = some (.lst [.bl (decide (i = 0)), .bl (decide (i = 1)), .bl (decide (i = 2))]) := upd_same
    generalize upd H p0 (.lst [.bl (decide (i = 0)), .bl (decide (i = 1)), .bl (decide (i = 2))]) = D0 at s0 l0 ⊢
    replace hx := hx.ext s0
    replace S := same_trans S s0
    walk_at "hgo"
    refine g_askE L hi (by decide) hx ?_
    walk_at "hgo"
    refine g_askE L hi (by decide) hx ?_
    walk_at "hgo"
    intro p1 q1
    have s1 := same_new (o := .lst [.bl (decide (i = 3)), .bl (decide (i = 4))]) q1
    have l1 : upd D0 p1 (.lst [.bl (decide (i = 3)), .bl (decide (i = 4))]) p1 = some (.lst [.bl (decide (i = 3)), .bl (decide (i = 4))]) := upd_same
    generalize upd D0 p1 (.lst [.bl (decide (i = 3)), .bl (decide (i = 4))]) = D1 at s1 l1 ⊢
    replace hx := hx.ext s1
    replace S := same_trans S s1
    replace l0 := s1 _ _ l0
    walk_at "hgo"
    refine g_catW (ws := [.bl (decide (i = 0)), .bl (decide (i = 1)), .bl (decide (i = 2)), .bl (decide (i = 3)), .bl (decide (i = 4))]) l0 l1 (by simp only [List.cons_append, List.nil_append]) (small_of (by simp)) ?_
    intro b1 v1
    have u1 := same_new (o := .lst [.bl (decide (i = 0)), .bl (decide (i = 1)), .bl (decide (i = 2)), .bl (decide (i = 3)), .bl (decide (i = 4))]) v1
    have z1 : upd D1 b1 (.lst [.bl (decide (i = 0)), .bl (decide (i = 1)), .bl (decide (i = 2)), .bl (decide (i = 3)), .bl (decide (i = 4))]) b1 = some (.lst [.bl (decide (i = 0)), .bl (decide (i = 1)), .bl (decide (i = 2)), .bl (decide (i = 3)), .bl (decide (i = 4))]) := upd_same
    generalize upd D1 b1 (.lst [.bl (decide (i = 0)), .bl (decide (i = 1)), .bl (decide (i = 2)), .bl (decide (i = 3)), .bl (decide (i = 4))]) = B1 at u1 z1 ⊢
    have W1 := S
    replace hx := hx.ext u1
    replace S := same_trans S u1
    walk_at "hgo"
    refine g_askE L hi (by decide) hx ?_
    walk_at "hgo"
    refine g_askE L hi (by decide) hx ?_
    walk_at "hgo"
    intro p2 q2
    have s2 := same_new (o := .lst [.bl (decide (i = 5)), .bl (decide (i = 6))]) q2
    have l2 : upd B1 p2 (.lst [.bl (decide (i = 5)), .bl (decide (i = 6))]) p2 = some (.lst [.bl (decide (i = 5)), .bl (decide (i = 6))]) := upd_same
    generalize upd B1 p2 (.lst [.bl (decide (i = 5)), .bl (decide (i = 6))]) = D2 at s2 l2 ⊢
    replace hx := hx.ext s2
    replace S := same_trans S s2
    replace z1 := s2 _ _ z1
    walk_at "hgo"
    refine g_catW (ws := [.bl (decide (i = 0)), .bl (decide (i = 1)), .bl (decide (i = 2)), .bl (decide (i = 3)), .bl (decide (i = 4)), .bl (decide (i = 5)), .bl (decide (i = 6))]) z1 l2 (by simp only [List.cons_append, List.nil_append]) (small_of (by simp)) ?_
    intro b2 v2
    have u2 := same_new (o := .lst [.bl (decide (i = 0)), .bl (decide (i = 1)), .bl (decide (i = 2)), .bl (decide (i = 3)), .bl (decide (i = 4)), .bl (decide (i = 5)), .bl (decide (i = 6))]) v2
    have z2 : upd D2 b2 (.lst [.bl (decide (i = 0)), .bl (decide (i = 1)), .bl (decide (i = 2)), .bl (decide (i = 3)), .bl (decide (i = 4)), .bl (decide (i = 5)), .bl (decide (i = 6))]) b2 = some (.lst [.bl (decide (i = 0)), .bl (decide (i = 1)), .bl (decide (i = 2)), .bl (decide (i = 3)), .bl (decide (i = 4)), .bl (decide (i = 5)), .bl (decide (i = 6))]) := upd_same
    generalize upd D2 b2 (.lst [.bl (decide (i = 0)), .bl (decide (i = 1)), .bl (decide (i = 2)), .bl (decide (i = 3)), .bl (decide (i = 4)), .bl (decide (i = 5)), .bl (decide (i = 6))]) = B2 at u2 z2 ⊢
    have W2 := S
    replace hx := hx.ext u2
    replace S := same_trans S u2
    walk_at "hgo"
    refine g_askE L hi (by decide) hx ?_
    walk_at "hgo"
    refine g_askE L hi (by decide) hx ?_
    walk_at "hgo"
    intro p3 q3
    have s3 := same_new (o := .lst [.bl (decide (i = 7)), .bl (decide (i = 8))]) q3
    have l3 : upd B2 p3 (.lst [.bl (decide (i = 7)), .bl (decide (i = 8))]) p3 = some (.lst [.bl (decide (i = 7)), .bl (decide (i = 8))]) := upd_same
    generalize upd B2 p3 (.lst [.bl (decide (i = 7)), .bl (decide (i = 8))]) = D3 at s3 l3 ⊢
    replace hx := hx.ext s3
    replace S := same_trans S s3
    replace z2 := s3 _ _ z2
    walk_at "hgo"
    refine g_catW (ws := [.bl (decide (i = 0)), .bl (decide (i = 1)), .bl (decide (i = 2)), .bl (decide (i = 3)), .bl (decide (i = 4)), .bl (decide (i = 5)), .bl (decide (i = 6)), .bl (decide (i = 7)), .bl (decide (i = 8))]) z2 l3 (by simp only [List.cons_append, List.nil_append]) (small_of (by simp)) ?_
    intro b3 v3
    have u3 := same_new (o := .lst [.bl (decide (i = 0)), .bl (decide (i = 1)), .bl (decide (i = 2)), .bl (decide (i = 3)), .bl (decide (i = 4)), .bl (decide (i = 5)), .bl (decide (i = 6)), .bl (decide (i = 7)), .bl (decide (i = 8))]) v3
    have z3 : upd D3 b3 (.lst [.bl (decide (i = 0)), .bl (decide (i = 1)), .bl (decide (i = 2)), .bl (decide (i = 3)), .bl (decide (i = 4)), .bl (decide (i = 5)), .bl (decide (i = 6)), .bl (decide (i = 7)), .bl (decide (i = 8))]) b3 = some (.lst [.bl (decide (i = 0)), .bl (decide (i = 1)), .bl (decide (i = 2)), .bl (decide (i = 3)), .bl (decide (i = 4)), .bl (decide (i = 5)), .bl (decide (i = 6)), .bl (decide (i = 7)), .bl (decide (i = 8))]) := upd_same
    generalize upd D3 b3 (.lst [.bl (decide (i = 0)), .bl (decide (i = 1)), .bl (decide (i = 2)), .bl (decide (i = 3)), .bl (decide (i = 4)), .bl (decide (i = 5)), .bl (decide (i = 6)), .bl (decide (i = 7)), .bl (decide (i = 8))]) = B3 at u3 z3 ⊢
    have W3 := S
    replace hx := hx.ext u3
    replace S := same_trans S u3
    walk_at "hgo"
    refine g_askE L hi (by decide) hx ?_
    walk_at "hgo"
    refine g_askE L hi (by decide) hx ?_
    walk_at "hgo"
    intro p4 q4
    have s4 := same_new (o := .lst [.bl (decide (i = 9)), .bl (decide (i = 10))]) q4
    have l4 : upd B3 p4 (.lst [.bl (decide (i = 9)), .bl (decide (i = 10))]) p4 = some (.lst [.bl (decide (i = 9)), .bl (decide (i = 10))]) := upd_same
    generalize upd B3 p4 (.lst [.bl (decide (i = 9)), .bl (decide (i = 10))]) = D4 at s4 l4 ⊢
    replace hx := hx.ext s4
    replace S := same_trans S s4
    replace z3 := s4 _ _ z3
    walk_at "hgo"
    refine g_catW (ws := [.bl (decide (i = 0)), .bl (decide (i = 1)), .bl (decide (i = 2)), .bl (decide (i = 3)), .bl (decide (i = 4)), .bl (decide (i = 5)), .bl (decide (i = 6)), .bl (decide (i = 7)), .bl (decide (i = 8)), .bl (decide (i = 9)), .bl (decide (i = 10))]) z3 l4 (by simp only [List.cons_append, List.nil_append]) (small_of (by simp)) ?_
    intro b4 v4
    have u4 := same_new (o := .lst [.bl (decide (i = 0)), .bl (decide (i = 1)), .bl (decide (i = 2)), .bl (decide (i = 3)), .bl (decide (i = 4)), .bl (decide (i = 5)), .bl (decide (i = 6)), .bl (decide (i = 7)), .bl (decide (i = 8)), .bl (decide (i = 9)), .bl (decide (i = 10))]) v4
    have z4 : upd D4 b4 (.lst [.bl (decide (i = 0)), .bl (decide (i = 1)), .bl (decide (i = 2)), .bl (decide (i = 3)), .bl (decide (i = 4)), .bl (decide (i = 5)), .bl (decide (i = 6)), .bl (decide (i = 7)), .bl (decide (i = 8)), .bl (decide (i = 9)), .bl (decide (i = 10))]) b4 = some (.lst [.bl (decide (i = 0)), .bl (decide (i = 1)), .bl (decide (i = 2)), .bl (decide (i = 3)), .bl (decide (i = 4)), .bl (decide (i = 5)), .bl (decide (i = 6)), .bl (decide (i = 7)), .bl (decide (i = 8)), .bl (decide (i = 9)), .bl (decide (i = 10))]) := upd_same
    generalize upd D4 b4 (.lst [.bl (decide (i = 0)), .bl (decide (i = 1)), .bl (decide (i = 2)), .bl (decide (i = 3)), .bl (decide (i = 4)), .bl (decide (i = 5)), .bl (decide (i = 6)), .bl (decide (i = 7)), .bl (decide (i = 8)), .bl (decide (i = 9)), .bl (decide (i = 10))]) = B4 at u4 z4 ⊢
    have W4 := S
    replace hx := hx.ext u4
    replace S := same_trans S u4
    walk_at "hgo"
    refine g_askE L hi (by decide) hx ?_
    walk_at "hgo"
    refine g_askE L hi (by decide) hx ?_
    walk_at "hgo"
    intro p5 q5
    have s5 := same_new (o := .lst [.bl (decide (i = 11)), .bl (decide (i = 12))]) q5
    have l5 : upd B4 p5 (.lst [.bl (decide (i = 11)), .bl (decide (i = 12))]) p5 = some (.lst [.bl (decide (i = 11)), .bl (decide (i = 12))]) := upd_same
    generalize upd B4 p5 (.lst [.bl (decide (i = 11)), .bl (decide (i = 12))]) = D5 at s5 l5 ⊢
    replace hx := hx.ext s5
    replace S := same_trans S s5
    replace z4 := s5 _ _ z4
    walk_at "hgo"
    refine g_catW (ws := [.bl (decide (i = 0)), .bl (decide (i = 1)), .bl (decide (i = 2)), .bl (decide (i = 3)), .bl (decide (i = 4)), .bl (decide (i = 5)), .bl (decide (i = 6)), .bl (decide (i = 7)), .bl (decide (i = 8)), .bl (decide (i = 9)), .bl (decide (i = 10)), .bl (decide (i = 11)), .bl (decide (i = 12))]) z4 l5 (by simp only [List.cons_append, List.nil_append]) (small_of (by simp)) ?_
    intro b5 v5
    have u5 := same_new (o := .lst [.bl (decide (i = 0)), .bl (decide (i = 1)), .bl (decide (i = 2)), .bl (decide (i = 3)), .bl (decide (i = 4)), .bl (decide (i = 5)), .bl (decide (i = 6)), .bl (decide (i = 7)), .bl (decide (i = 8)), .bl (decide (i = 9)), .bl (decide (i = 10)), .bl (decide (i = 11)), .bl (decide (i = 12))]) v5
    have z5 : upd D5 b5 (.lst [.bl (decide (i = 0)), .bl (decide (i = 1)), .bl (decide (i = 2)), .bl (decide (i = 3)), .bl (decide (i = 4)), .bl (decide (i = 5)), .bl (decide (i = 6)), .bl (decide (i = 7)), .bl (decide (i = 8)), .bl (decide (i = 9)), .bl (decide (i = 10)), .bl (decide (i = 11)), .bl (decide (i = 12))]) b5 = some (.lst [.bl (decide (i = 0)), .bl (decide (i = 1)), .bl (decide (i = 2)), .bl (decide (i = 3)), .bl (decide (i = 4)), .bl (decide (i = 5)), .bl (decide (i = 6)), .bl (decide (i = 7)), .bl (decide (i = 8)), .bl (decide (i = 9)), .bl (decide (i = 10)), .bl (decide (i = 11)), .bl (decide (i = 12))]) := upd_same
    generalize upd D5 b5 (.lst [.bl (decide (i = 0)), .bl (decide (i = 1)), .bl (decide (i = 2)), .bl (decide (i = 3)), .bl (decide (i = 4)), .bl (decide (i = 5)), .bl (decide (i = 6)), .bl (decide (i = 7)), .bl (decide (i = 8)), .bl (decide (i = 9)), .bl (decide (i = 10)), .bl (decide (i = 11)), .bl (decide (i = 12))]) = B5 at u5 z5 ⊢
    have W5 := S
    replace hx := hx.ext u5
    replace S := same_trans S u5
    walk_at "hgo"
    refine g_askE L hi (by decide) hx ?_
    walk_at "hgo"
    refine g_askE L hi (by decide) hx ?_
    walk_at "hgo"
    refine g_askE L hi (by decide) hx ?_
    walk_at "hgo"
    intro p6 q6
    have s6 := same_new (o := .lst [.bl (decide (i = 13)), .bl (decide (i = 14)), .bl (decide (i = 15))]) q6
    have l6 : upd B5 p6 (.lst [.bl (decide (i = 13)), .bl (decide (i = 14)), .bl (decide (i = 15))]) p6 = some (.lst [.bl (decide (i = 13)), .bl (decide (i = 14)), .bl (decide (i = 15))]) := upd_same
    generalize upd B5 p6 (.lst [.bl (decide (i = 13)), .bl (decide (i = 14)), .bl (decide (i = 15))]) = D6 at s6 l6 ⊢
    replace hx := hx.ext s6
    replace S := same_trans S s6
    replace z5 := s6 _ _ z5
    walk_at "hgo"
    refine g_catW (ws := [.bl (decide (i = 0)), .bl (decide (i = 1)), .bl (decide (i = 2)), .bl (decide (i = 3)), .bl (decide (i = 4)), .bl (decide (i = 5)), .bl (decide (i = 6)), .bl (decide (i = 7)), .bl (decide (i = 8)), .bl (decide (i = 9)), .bl (decide (i = 10)), .bl (decide (i = 11)), .bl (decide (i = 12)), .bl (decide (i = 13)), .bl (decide (i = 14)), .bl (decide (i = 15))]) z5 l6 (by simp only [List.cons_append, List.nil_append]) (small_of (by simp)) ?_
    intro b6 v6
    have u6 := same_new (o := .lst [.bl (decide (i = 0)), .bl (decide (i = 1)), .bl (decide (i = 2)), .bl (decide (i = 3)), .bl (decide (i = 4)), .bl (decide (i = 5)), .bl (decide (i = 6)), .bl (decide (i = 7)), .bl (decide (i = 8)), .bl (decide (i = 9)), .bl (decide (i = 10)), .bl (decide (i = 11)), .bl (decide (i = 12)), .bl (decide (i = 13)), .bl (decide (i = 14)), .bl (decide (i = 15))]) v6
    have z6 : upd D6 b6 (.lst [.bl (decide (i = 0)), .bl (decide (i = 1)), .bl (decide (i = 2)), .bl (decide (i = 3)), .bl (decide (i = 4)), .bl (decide (i = 5)), .bl (decide (i = 6)), .bl (decide (i = 7)), .bl (decide (i = 8)), .bl (decide (i = 9)), .bl (decide (i = 10)), .bl (decide (i = 11)), .bl (decide (i = 12)), .bl (decide (i = 13)), .bl (decide (i = 14)), .bl (decide (i = 15))]) b6 = some (.lst [.bl (decide (i = 0)), .bl (decide (i = 1)), .bl (decide (i = 2)), .bl (decide (i = 3)), .bl (decide (i = 4)), .bl (decide (i = 5)), .bl (decide (i = 6)), .bl (decide (i = 7)), .bl (decide (i = 8)), .bl (decide (i = 9)), .bl (decide (i = 10)), .bl (decide (i = 11)), .bl (decide (i = 12)), .bl (decide (i = 13)), .bl (decide (i = 14)), .bl (decide (i = 15))]) := upd_same
    generalize upd D6 b6 (.lst [.bl (decide (i = 0)), .bl (decide (i = 1)), .bl (decide (i = 2)), .bl (decide (i = 3)), .bl (decide (i = 4)), .bl (decide (i = 5)), .bl (decide (i = 6)), .bl (decide (i = 7)), .bl (decide (i = 8)), .bl (decide (i = 9)), .bl (decide (i = 10)), .bl (decide (i = 11)), .bl (decide (i = 12)), .bl (decide (i = 13)), .bl (decide (i = 14)), .bl (decide (i = 15))]) = B6 at u6 z6 ⊢
    have W6 := S
    replace hx := hx.ext u6
    replace S := same_trans S u6
    walk_at "hgo"
    refine g_bm ?_
    walk_at "hgo"
    refine ⟨?ty, ?_⟩
    case ty => exact .inl ⟨rfl, _, SqL.of z6⟩
    walk_at "hgo"
    refine g_askE L hi (by decide) hx ?_
    walk_at "hgo"
    refine ⟨_, _, _, rfl, rfl, z6, by (show 16 < sizeLine; decide), ?_⟩
    rw [show ([.bl (decide (i = 0)), .bl (decide (i = 1)), .bl (decide (i = 2)), .bl (decide (i = 3)), .bl (decide (i = 4)), .bl (decide (i = 5)), .bl (decide (i = 6)), .bl (decide (i = 7)), .bl (decide (i = 8)), .bl (decide (i = 9)), .bl (decide (i = 10)), .bl (decide (i = 11)), .bl (decide (i = 12)), .bl (decide (i = 13)), .bl (decide (i = 14)), .bl (decide (i = 15))] : List V) ++ [.bl (decide (i = 16))] = (List.range 17).map (fun j => V.bl (decide (i = j))) from rfl]
    have zz : upd B6 b6 (.lst ((List.range 17).map (fun j => V.bl (decide (i = j))))) b6 = some (.lst ((List.range 17).map (fun j => V.bl (decide (i = j))))) := upd_same
    have SS : Same H (upd B6 b6 (.lst ((List.range 17).map (fun j => V.bl (decide (i = j)))))) := fun b o e => by
      rw [upd_ne (ne_of_none (W6 b o e) v6)]
      exact S b o e
    generalize upd B6 b6 (.lst ((List.range 17).map (fun j => V.bl (decide (i = j))))) = G at zz SS ⊢
    walk_at "hgo"
    refine g_rng (by decide) (by decide) ?_
    intro D hD
    refine lc_range (n := 17) (fun m H' => Same G H' ∧ H' D = some (.lst (((List.range m).filter (fun j => decide (i = j))).map fun (j : Nat) => V.int (j : Int)))) ⟨same_new hD, by rw [upd_same]; rfl⟩ ?_ ?_
    · rintro m H4 hm ⟨S4, hl⟩
      walk_at "hgo"
      refine ⟨rfl, ?_⟩
      walk_at "hgo"
      refine g_ixL (SqL.of (S4 _ _ zz)) (flag_at hm) ?_
      walk_at "hgo"
      have more : (List.range (m + 1)).filter (fun j => decide (i = j)) = (List.range m).filter (fun j => decide (i = j)) ++ (if i = m then [m] else []) := by
        rw [List.range_succ, List.filter_append]
        by_cases e : i = m <;> simp [e]
      have few : ((List.range m).filter (fun j => decide (i = j))).length ≤ m := by
        have := List.length_filter_le (fun j => decide (i = j)) (List.range m)
        rw [List.length_range] at this
        exact this
      by_cases e : i = m
      · refine g_true (by simp [e]) ?_
        walk_at "hgo"
        refine ⟨_, hl, ?_, ?_, ?_⟩
        · rw [List.length_map]
          exact Nat.lt_of_le_of_lt few (Nat.lt_of_lt_of_le (show m < 1000 by omega) (by decide))
        · intro b o q
          rw [upd_ne (ne_of_none q hD)]
          exact S4 b o q
        · rw [upd_same, more, if_pos e, List.map_append, Int.zero_add]
          rfl
      · refine g_false (by simp [e]) ?_
        walk_at "hgo"
        refine ⟨S4, ?_⟩
        rw [more, if_neg e, List.append_nil]
        exact hl
    · rintro H4 ⟨S4, hl⟩
      walk_at "hgo"
      rw [own_is i hi] at hl
      exact k D H4 (same_trans SS S4) hl
end

def spBased (c : Nat → Addr) : Sp := fun vs H Q _ => ∃ (i : Nat) (a : Addr) (fs : List (Str × V)), vs = [.int (i : Int), .ref a] ∧ i < 17 ∧ IsE (c i) fs a H ∧ ∀ H', Same H H' → Q (.bl true) H'
section
variable {P : Program} {w : World} {K : PySem.W.Frag} {mg : Str → Option Value} {base : Heap} {c : Nat → Addr}
theorem go_based0 {cdv : Value} {A : Around} {outer : List Env} {s : Shared} {H : Hp} {Q : VK} {E : XK} {f : Addr} (L : Lay P w K mg base c) (T : TxtO mg) (hr : Room 0 (A.deeper (envOfC "_law_is_based" (defScope s_law_is_based) s.heap.objs.size f cdv))) {a : Addr} {fs : List (Str × V)} (hx : IsE (c 0) fs a H)
    (k : ∀ H', Same H H' → Q (.bl true) H') :
    ∃ t, PSs (cxOf CX0 P w K mg base N_law_is_based "_law_is_based" (defScope s_law_is_based) f cdv A outer s H E).nox (defBody s_law_is_based) t ∧ t { nx := fun _ H' => Q .non H', rt := Q } (start N_law_is_based [.int 0, .ref a]) H := by
  refine ⟨_, (pss_cons (ps_if (PW.pt (pw_or (pt_cmpR op_ne (pe_callB call_askE (by rfl) T.isinstance (by decide +kernel) (pa_cons (pv 1) (pa_cons (pe_glob (v := .ref (c 17)) (by rfl) (L.glob 17 (by decide)) rfl) pa_nil))) (pe_cmpR op_lt (pv 0) pe_int (nomark _)) (nomark _)) (pw_or1 (pt_cmpR op_ne (pe_callB call_askE (by rfl) T.isinstance (by decide +kernel) (pa_cons (pv 1) (pa_cons (pe_glob (v := .ref (c 18)) (by rfl) (L.glob 18 (by decide)) rfl) pa_nil))) (pe_cmpR op_in_seq (pv 0) (pe_tup (pa_cons pe_int (pa_cons pe_int pa_nil))) rfl) (nomark _))))) (pss_one (ps_ret pe_bl)) pss_nil)
      (pss_cons (ps_if (pt_cmpR op_lt (pv 0) pe_int (nomark _)) (pss_one (ps_ret (pe_callB call_askE (by rfl) T.isinstance (by decide +kernel) (pa_cons (pv 1) (pa_cons (pe_bltn (v := .ty "ValueError") (u := .type "ValueError") (by rfl) T.ValueError (by decide +kernel) rfl) pa_nil))))) pss_nil)
      (pss_cons (ps_if (pt_cmpR op_lt (pv 0) pe_int (nomark _)) (pss_one (ps_ret (pe_callB call_askE (by rfl) T.isinstance (by decide +kernel) (pa_cons (pv 1) (pa_cons (pe_bltn (v := .ty "LookupError") (u := .type "LookupError") (by rfl) T.LookupError (by decide +kernel) rfl) pa_nil))))) pss_nil)
      (pss_one (ps_ret (pe_ifExp (pt_cmpR op_eq (pv 0) pe_int (nomark _)) (pe_callB call_askE (by rfl) T.isinstance (by decide +kernel) (pa_cons (pv 1) (pa_cons (pe_bltn (v := .ty "OverflowError") (u := .type "OverflowError") (by rfl) T.OverflowError (by decide +kernel) rfl) pa_nil))) (pe_callB call_askE (by rfl) T.isinstance (by decide +kernel) (pa_cons (pv 1) (pa_cons (pe_bltn (v := .ty "IndexError") (u := .type "IndexError") (by rfl) T.IndexError (by decide +kernel) rfl) pa_nil))))))))), ?_⟩
  try dsimp only [cxOf]
  rw [show L2.start N_law_is_based [.int 0, .ref a] = [some (.int 0), some (.ref a)] from rfl]
  walk_at "hgo"
  refine g_askN L (by decide) hx ?_
  walk_at "hx"
  try refine g_false (by decide) ?_
  walk_at "hx"
  refine g_askM L (by decide) hx ?_
  walk_at "hx"
  intro p n
  have S := same_new (o := .tup [V.int 13, V.int 14]) n
  walk_at "hx"
  refine g_inT upd_same rfl rfl ?_
  generalize upd _ p _ = G at S ⊢
  replace hx := hx.ext S
  walk_at "hx"
  try refine g_false (by decide) ?_
  walk_at "hgo"
  try refine g_true (by decide) ?_
  walk_at "hgo"
  refine g_askT L (by decide) (by decide +kernel) hx ?_
  rw [show (over c 0).contains (.type "ValueError") = true from by simp [over, tVE, tLE, tOE, tIE]]
  walk_at "hgo"
  exact k _ S
theorem go_based1 {cdv : Value} {A : Around} {outer : List Env} {s : Shared} {H : Hp} {Q : VK} {E : XK} {f : Addr} (L : Lay P w K mg base c) (T : TxtO mg) (hr : Room 0 (A.deeper (envOfC "_law_is_based" (defScope s_law_is_based) s.heap.objs.size f cdv))) {a : Addr} {fs : List (Str × V)} (hx : IsE (c 1) fs a H)
    (k : ∀ H', Same H H' → Q (.bl true) H') :
    ∃ t, PSs (cxOf CX0 P w K mg base N_law_is_based "_law_is_based" (defScope s_law_is_based) f cdv A outer s H E).nox (defBody s_law_is_based) t ∧ t { nx := fun _ H' => Q .non H', rt := Q } (start N_law_is_based [.int 1, .ref a]) H := by
  refine ⟨_, (pss_cons (ps_if (PW.pt (pw_or (pt_cmpR op_ne (pe_callB call_askE (by rfl) T.isinstance (by decide +kernel) (pa_cons (pv 1) (pa_cons (pe_glob (v := .ref (c 17)) (by rfl) (L.glob 17 (by decide)) rfl) pa_nil))) (pe_cmpR op_lt (pv 0) pe_int (nomark _)) (nomark _)) (pw_or1 (pt_cmpR op_ne (pe_callB call_askE (by rfl) T.isinstance (by decide +kernel) (pa_cons (pv 1) (pa_cons (pe_glob (v := .ref (c 18)) (by rfl) (L.glob 18 (by decide)) rfl) pa_nil))) (pe_cmpR op_in_seq (pv 0) (pe_tup (pa_cons pe_int (pa_cons pe_int pa_nil))) rfl) (nomark _))))) (pss_one (ps_ret pe_bl)) pss_nil)
      (pss_cons (ps_if (pt_cmpR op_lt (pv 0) pe_int (nomark _)) (pss_one (ps_ret (pe_callB call_askE (by rfl) T.isinstance (by decide +kernel) (pa_cons (pv 1) (pa_cons (pe_bltn (v := .ty "ValueError") (u := .type "ValueError") (by rfl) T.ValueError (by decide +kernel) rfl) pa_nil))))) pss_nil)
      (pss_cons (ps_if (pt_cmpR op_lt (pv 0) pe_int (nomark _)) (pss_one (ps_ret (pe_callB call_askE (by rfl) T.isinstance (by decide +kernel) (pa_cons (pv 1) (pa_cons (pe_bltn (v := .ty "LookupError") (u := .type "LookupError") (by rfl) T.LookupError (by decide +kernel) rfl) pa_nil))))) pss_nil)
      (pss_one (ps_ret (pe_ifExp (pt_cmpR op_eq (pv 0) pe_int (nomark _)) (pe_callB call_askE (by rfl) T.isinstance (by decide +kernel) (pa_cons (pv 1) (pa_cons (pe_bltn (v := .ty "OverflowError") (u := .type "OverflowError") (by rfl) T.OverflowError (by decide +kernel) rfl) pa_nil))) (pe_callB call_askE (by rfl) T.isinstance (by decide +kernel) (pa_cons (pv 1) (pa_cons (pe_bltn (v := .ty "IndexError") (u := .type "IndexError") (by rfl) T.IndexError (by decide +kernel) rfl) pa_nil))))))))), ?_⟩
  try dsimp only [cxOf]
  rw [show L2.start N_law_is_based [.int 1, .ref a] = [some (.int 1), some (.ref a)] from rfl]
  walk_at "hgo"
  refine g_askN L (by decide) hx ?_
  walk_at "hx"
  try refine g_false (by decide) ?_
  walk_at "hx"
  refine g_askM L (by decide) hx ?_
  walk_at "hx"
  intro p n
  have S := same_new (o := .tup [V.int 13, V.int 14]) n
  walk_at "hx"
  refine g_inT upd_same rfl rfl ?_
  generalize upd _ p _ = G at S ⊢
  replace hx := hx.ext S
  walk_at "hx"
  try refine g_false (by decide) ?_
  walk_at "hgo"
  try refine g_true (by decide) ?_
  walk_at "hgo"
  refine g_askT L (by decide) (by decide +kernel) hx ?_
  rw [show (over c 1).contains (.type "ValueError") = true from by simp [over, tVE, tLE, tOE, tIE]]
  walk_at "hgo"
  exact k _ S
theorem go_based2 {cdv : Value} {A : Around} {outer : List Env} {s : Shared} {H : Hp} {Q : VK} {E : XK} {f : Addr} (L : Lay P w K mg base c) (T : TxtO mg) (hr : Room 0 (A.deeper (envOfC "_law_is_based" (defScope s_law_is_based) s.heap.objs.size f cdv))) {a : Addr} {fs : List (Str × V)} (hx : IsE (c 2) fs a H)
    (k : ∀ H', Same H H' → Q (.bl true) H') :
    ∃ t, PSs (cxOf CX0 P w K mg base N_law_is_based "_law_is_based" (defScope s_law_is_based) f cdv A outer s H E).nox (defBody s_law_is_based) t ∧ t { nx := fun _ H' => Q .non H', rt := Q } (start N_law_is_based [.int 2, .ref a]) H := by
  refine ⟨_, (pss_cons (ps_if (PW.pt (pw_or (pt_cmpR op_ne (pe_callB call_askE (by rfl) T.isinstance (by decide +kernel) (pa_cons (pv 1) (pa_cons (pe_glob (v := .ref (c 17)) (by rfl) (L.glob 17 (by decide)) rfl) pa_nil))) (pe_cmpR op_lt (pv 0) pe_int (nomark _)) (nomark _)) (pw_or1 (pt_cmpR op_ne (pe_callB call_askE (by rfl) T.isinstance (by decide +kernel) (pa_cons (pv 1) (pa_cons (pe_glob (v := .ref (c 18)) (by rfl) (L.glob 18 (by decide)) rfl) pa_nil))) (pe_cmpR op_in_seq (pv 0) (pe_tup (pa_cons pe_int (pa_cons pe_int pa_nil))) rfl) (nomark _))))) (pss_one (ps_ret pe_bl)) pss_nil)
      (pss_cons (ps_if (pt_cmpR op_lt (pv 0) pe_int (nomark _)) (pss_one (ps_ret (pe_callB call_askE (by rfl) T.isinstance (by decide +kernel) (pa_cons (pv 1) (pa_cons (pe_bltn (v := .ty "ValueError") (u := .type "ValueError") (by rfl) T.ValueError (by decide +kernel) rfl) pa_nil))))) pss_nil)
      (pss_cons (ps_if (pt_cmpR op_lt (pv 0) pe_int (nomark _)) (pss_one (ps_ret (pe_callB call_askE (by rfl) T.isinstance (by decide +kernel) (pa_cons (pv 1) (pa_cons (pe_bltn (v := .ty "LookupError") (u := .type "LookupError") (by rfl) T.LookupError (by decide +kernel) rfl) pa_nil))))) pss_nil)
      (pss_one (ps_ret (pe_ifExp (pt_cmpR op_eq (pv 0) pe_int (nomark _)) (pe_callB call_askE (by rfl) T.isinstance (by decide +kernel) (pa_cons (pv 1) (pa_cons (pe_bltn (v := .ty "OverflowError") (u := .type "OverflowError") (by rfl) T.OverflowError (by decide +kernel) rfl) pa_nil))) (pe_callB call_askE (by rfl) T.isinstance (by decide +kernel) (pa_cons (pv 1) (pa_cons (pe_bltn (v := .ty "IndexError") (u := .type "IndexError") (by rfl) T.IndexError (by decide +kernel) rfl) pa_nil))))))))), ?_⟩
  try dsimp only [cxOf]
  rw [show L2.start N_law_is_based [.int 2, .ref a] = [some (.int 2), some (.ref a)] from rfl]
  walk_at "hgo"
  refine g_askN L (by decide) hx ?_
  walk_at "hx"
  try refine g_false (by decide) ?_
  walk_at "hx"
  refine g_askM L (by decide) hx ?_
  walk_at "hx"
  intro p n
  have S := same_new (o := .tup [V.int 13, V.int 14]) n
  walk_at "hx"
  refine g_inT upd_same rfl rfl ?_
  generalize upd _ p _ = G at S ⊢
  replace hx := hx.ext S
  walk_at "hx"
  try refine g_false (by decide) ?_
  walk_at "hgo"
  try refine g_true (by decide) ?_
  walk_at "hgo"
  refine g_askT L (by decide) (by decide +kernel) hx ?_
  rw [show (over c 2).contains (.type "ValueError") = true from by simp [over, tVE, tLE, tOE, tIE]]
  walk_at "hgo"
  exact k _ S
theorem go_based3 {cdv : Value} {A : Around} {outer : List Env} {s : Shared} {H : Hp} {Q : VK} {E : XK} {f : Addr} (L : Lay P w K mg base c) (T : TxtO mg) (hr : Room 0 (A.deeper (envOfC "_law_is_based" (defScope s_law_is_based) s.heap.objs.size f cdv))) {a : Addr} {fs : List (Str × V)} (hx : IsE (c 3) fs a H)
    (k : ∀ H', Same H H' → Q (.bl true) H') :
    ∃ t, PSs (cxOf CX0 P w K mg base N_law_is_based "_law_is_based" (defScope s_law_is_based) f cdv A outer s H E).nox (defBody s_law_is_based) t ∧ t { nx := fun _ H' => Q .non H', rt := Q } (start N_law_is_based [.int 3, .ref a]) H := by
  refine ⟨_, (pss_cons (ps_if (PW.pt (pw_or (pt_cmpR op_ne (pe_callB call_askE (by rfl) T.isinstance (by decide +kernel) (pa_cons (pv 1) (pa_cons (pe_glob (v := .ref (c 17)) (by rfl) (L.glob 17 (by decide)) rfl) pa_nil))) (pe_cmpR op_lt (pv 0) pe_int (nomark _)) (nomark _)) (pw_or1 (pt_cmpR op_ne (pe_callB call_askE (by rfl) T.isinstance (by decide +kernel) (pa_cons (pv 1) (pa_cons (pe_glob (v := .ref (c 18)) (by rfl) (L.glob 18 (by decide)) rfl) pa_nil))) (pe_cmpR op_in_seq (pv 0) (pe_tup (pa_cons pe_int (pa_cons pe_int pa_nil))) rfl) (nomark _))))) (pss_one (ps_ret pe_bl)) pss_nil)
      (pss_cons (ps_if (pt_cmpR op_lt (pv 0) pe_int (nomark _)) (pss_one (ps_ret (pe_callB call_askE (by rfl) T.isinstance (by decide +kernel) (pa_cons (pv 1) (pa_cons (pe_bltn (v := .ty "ValueError") (u := .type "ValueError") (by rfl) T.ValueError (by decide +kernel) rfl) pa_nil))))) pss_nil)
      (pss_cons (ps_if (pt_cmpR op_lt (pv 0) pe_int (nomark _)) (pss_one (ps_ret (pe_callB call_askE (by rfl) T.isinstance (by decide +kernel) (pa_cons (pv 1) (pa_cons (pe_bltn (v := .ty "LookupError") (u := .type "LookupError") (by rfl) T.LookupError (by decide +kernel) rfl) pa_nil))))) pss_nil)
      (pss_one (ps_ret (pe_ifExp (pt_cmpR op_eq (pv 0) pe_int (nomark _)) (pe_callB call_askE (by rfl) T.isinstance (by decide +kernel) (pa_cons (pv 1) (pa_cons (pe_bltn (v := .ty "OverflowError") (u := .type "OverflowError") (by rfl) T.OverflowError (by decide +kernel) rfl) pa_nil))) (pe_callB call_askE (by rfl) T.isinstance (by decide +kernel) (pa_cons (pv 1) (pa_cons (pe_bltn (v := .ty "IndexError") (u := .type "IndexError") (by rfl) T.IndexError (by decide +kernel) rfl) pa_nil))))))))), ?_⟩
  try dsimp only [cxOf]
  rw [show L2.start N_law_is_based [.int 3, .ref a] = [some (.int 3), some (.ref a)] from rfl]
  walk_at "hgo"
  refine g_askN L (by decide) hx ?_
  walk_at "hx"
  try refine g_false (by decide) ?_
  walk_at "hx"
  refine g_askM L (by decide) hx ?_
  walk_at "hx"
  intro p n
  have S := same_new (o := .tup [V.int 13, V.int 14]) n
  walk_at "hx"
  refine g_inT upd_same rfl rfl ?_
  generalize upd _ p _ = G at S ⊢
  replace hx := hx.ext S
  walk_at "hx"
  try refine g_false (by decide) ?_
  walk_at "hgo"
  try refine g_true (by decide) ?_
  walk_at "hgo"
  refine g_askT L (by decide) (by decide +kernel) hx ?_
  rw [show (over c 3).contains (.type "ValueError") = true from by simp [over, tVE, tLE, tOE, tIE]]
  walk_at "hgo"
  exact k _ S
theorem go_based4 {cdv : Value} {A : Around} {outer : List Env} {s : Shared} {H : Hp} {Q : VK} {E : XK} {f : Addr} (L : Lay P w K mg base c) (T : TxtO mg) (hr : Room 0 (A.deeper (envOfC "_law_is_based" (defScope s_law_is_based) s.heap.objs.size f cdv))) {a : Addr} {fs : List (Str × V)} (hx : IsE (c 4) fs a H)
    (k : ∀ H', Same H H' → Q (.bl true) H') :
    ∃ t, PSs (cxOf CX0 P w K mg base N_law_is_based "_law_is_based" (defScope s_law_is_based) f cdv A outer s H E).nox (defBody s_law_is_based) t ∧ t { nx := fun _ H' => Q .non H', rt := Q } (start N_law_is_based [.int 4, .ref a]) H := by
  refine ⟨_, (pss_cons (ps_if (PW.pt (pw_or (pt_cmpR op_ne (pe_callB call_askE (by rfl) T.isinstance (by decide +kernel) (pa_cons (pv 1) (pa_cons (pe_glob (v := .ref (c 17)) (by rfl) (L.glob 17 (by decide)) rfl) pa_nil))) (pe_cmpR op_lt (pv 0) pe_int (nomark _)) (nomark _)) (pw_or1 (pt_cmpR op_ne (pe_callB call_askE (by rfl) T.isinstance (by decide +kernel) (pa_cons (pv 1) (pa_cons (pe_glob (v := .ref (c 18)) (by rfl) (L.glob 18 (by decide)) rfl) pa_nil))) (pe_cmpR op_in_seq (pv 0) (pe_tup (pa_cons pe_int (pa_cons pe_int pa_nil))) rfl) (nomark _))))) (pss_one (ps_ret pe_bl)) pss_nil)
      (pss_cons (ps_if (pt_cmpR op_lt (pv 0) pe_int (nomark _)) (pss_one (ps_ret (pe_callB call_askE (by rfl) T.isinstance (by decide +kernel) (pa_cons (pv 1) (pa_cons (pe_bltn (v := .ty "ValueError") (u := .type "ValueError") (by rfl) T.ValueError (by decide +kernel) rfl) pa_nil))))) pss_nil)
      (pss_cons (ps_if (pt_cmpR op_lt (pv 0) pe_int (nomark _)) (pss_one (ps_ret (pe_callB call_askE (by rfl) T.isinstance (by decide +kernel) (pa_cons (pv 1) (pa_cons (pe_bltn (v := .ty "LookupError") (u := .type "LookupError") (by rfl) T.LookupError (by decide +kernel) rfl) pa_nil))))) pss_nil)
      (pss_one (ps_ret (pe_ifExp (pt_cmpR op_eq (pv 0) pe_int (nomark _)) (pe_callB call_askE (by rfl) T.isinstance (by decide +kernel) (pa_cons (pv 1) (pa_cons (pe_bltn (v := .ty "OverflowError") (u := .type "OverflowError") (by rfl) T.OverflowError (by decide +kernel) rfl) pa_nil))) (pe_callB call_askE (by rfl) T.isinstance (by decide +kernel) (pa_cons (pv 1) (pa_cons (pe_bltn (v := .ty "IndexError") (u := .type "IndexError") (by rfl) T.IndexError (by decide +kernel) rfl) pa_nil))))))))), ?_⟩
  try dsimp only [cxOf]
  rw [show L2.start N_law_is_based [.int 4, .ref a] = [some (.int 4), some (.ref a)] from rfl]
  walk_at "hgo"
  refine g_askN L (by decide) hx ?_
  walk_at "hx"
  try refine g_false (by decide) ?_
  walk_at "hx"
  refine g_askM L (by decide) hx ?_
  walk_at "hx"
  intro p n
  have S := same_new (o := .tup [V.int 13, V.int 14]) n
  walk_at "hx"
  refine g_inT upd_same rfl rfl ?_
  generalize upd _ p _ = G at S ⊢
  replace hx := hx.ext S
  walk_at "hx"
  try refine g_false (by decide) ?_
  walk_at "hgo"
  try refine g_true (by decide) ?_
  walk_at "hgo"
  refine g_askT L (by decide) (by decide +kernel) hx ?_
  rw [show (over c 4).contains (.type "ValueError") = true from by simp [over, tVE, tLE, tOE, tIE]]
  walk_at "hgo"
  exact k _ S
theorem go_based5 {cdv : Value} {A : Around} {outer : List Env} {s : Shared} {H : Hp} {Q : VK} {E : XK} {f : Addr} (L : Lay P w K mg base c) (T : TxtO mg) (hr : Room 0 (A.deeper (envOfC "_law_is_based" (defScope s_law_is_based) s.heap.objs.size f cdv))) {a : Addr} {fs : List (Str × V)} (hx : IsE (c 5) fs a H)
    (k : ∀ H', Same H H' → Q (.bl true) H') :
    ∃ t, PSs (cxOf CX0 P w K mg base N_law_is_based "_law_is_based" (defScope s_law_is_based) f cdv A outer s H E).nox (defBody s_law_is_based) t ∧ t { nx := fun _ H' => Q .non H', rt := Q } (start N_law_is_based [.int 5, .ref a]) H := by
  refine ⟨_, (pss_cons (ps_if (PW.pt (pw_or (pt_cmpR op_ne (pe_callB call_askE (by rfl) T.isinstance (by decide +kernel) (pa_cons (pv 1) (pa_cons (pe_glob (v := .ref (c 17)) (by rfl) (L.glob 17 (by decide)) rfl) pa_nil))) (pe_cmpR op_lt (pv 0) pe_int (nomark _)) (nomark _)) (pw_or1 (pt_cmpR op_ne (pe_callB call_askE (by rfl) T.isinstance (by decide +kernel) (pa_cons (pv 1) (pa_cons (pe_glob (v := .ref (c 18)) (by rfl) (L.glob 18 (by decide)) rfl) pa_nil))) (pe_cmpR op_in_seq (pv 0) (pe_tup (pa_cons pe_int (pa_cons pe_int pa_nil))) rfl) (nomark _))))) (pss_one (ps_ret pe_bl)) pss_nil)
      (pss_cons (ps_if (pt_cmpR op_lt (pv 0) pe_int (nomark _)) (pss_one (ps_ret (pe_callB call_askE (by rfl) T.isinstance (by decide +kernel) (pa_cons (pv 1) (pa_cons (pe_bltn (v := .ty "ValueError") (u := .type "ValueError") (by rfl) T.ValueError (by decide +kernel) rfl) pa_nil))))) pss_nil)
      (pss_cons (ps_if (pt_cmpR op_lt (pv 0) pe_int (nomark _)) (pss_one (ps_ret (pe_callB call_askE (by rfl) T.isinstance (by decide +kernel) (pa_cons (pv 1) (pa_cons (pe_bltn (v := .ty "LookupError") (u := .type "LookupError") (by rfl) T.LookupError (by decide +kernel) rfl) pa_nil))))) pss_nil)
      (pss_one (ps_ret (pe_ifExp (pt_cmpR op_eq (pv 0) pe_int (nomark _)) (pe_callB call_askE (by rfl) T.isinstance (by decide +kernel) (pa_cons (pv 1) (pa_cons (pe_bltn (v := .ty "OverflowError") (u := .type "OverflowError") (by rfl) T.OverflowError (by decide +kernel) rfl) pa_nil))) (pe_callB call_askE (by rfl) T.isinstance (by decide +kernel) (pa_cons (pv 1) (pa_cons (pe_bltn (v := .ty "IndexError") (u := .type "IndexError") (by rfl) T.IndexError (by decide +kernel) rfl) pa_nil))))))))), ?_⟩
  try dsimp only [cxOf]
  rw [show L2.start N_law_is_based [.int 5, .ref a] = [some (.int 5), some (.ref a)] from rfl]
  walk_at "hgo"
  refine g_askN L (by decide) hx ?_
  walk_at "hx"
  try refine g_false (by decide) ?_
  walk_at "hx"
  refine g_askM L (by decide) hx ?_
  walk_at "hx"
  intro p n
  have S := same_new (o := .tup [V.int 13, V.int 14]) n
  walk_at "hx"
  refine g_inT upd_same rfl rfl ?_
  generalize upd _ p _ = G at S ⊢
  replace hx := hx.ext S
  walk_at "hx"
  try refine g_false (by decide) ?_
  walk_at "hgo"
  try refine g_true (by decide) ?_
  walk_at "hgo"
  refine g_askT L (by decide) (by decide +kernel) hx ?_
  rw [show (over c 5).contains (.type "ValueError") = true from by simp [over, tVE, tLE, tOE, tIE]]
  walk_at "hgo"
  exact k _ S
theorem go_based6 {cdv : Value} {A : Around} {outer : List Env} {s : Shared} {H : Hp} {Q : VK} {E : XK} {f : Addr} (L : Lay P w K mg base c) (T : TxtO mg) (hr : Room 0 (A.deeper (envOfC "_law_is_based" (defScope s_law_is_based) s.heap.objs.size f cdv))) {a : Addr} {fs : List (Str × V)} (hx : IsE (c 6) fs a H)
    (k : ∀ H', Same H H' → Q (.bl true) H') :
    ∃ t, PSs (cxOf CX0 P w K mg base N_law_is_based "_law_is_based" (defScope s_law_is_based) f cdv A outer s H E).nox (defBody s_law_is_based) t ∧ t { nx := fun _ H' => Q .non H', rt := Q } (start N_law_is_based [.int 6, .ref a]) H := by
  refine ⟨_, (pss_cons (ps_if (PW.pt (pw_or (pt_cmpR op_ne (pe_callB call_askE (by rfl) T.isinstance (by decide +kernel) (pa_cons (pv 1) (pa_cons (pe_glob (v := .ref (c 17)) (by rfl) (L.glob 17 (by decide)) rfl) pa_nil))) (pe_cmpR op_lt (pv 0) pe_int (nomark _)) (nomark _)) (pw_or1 (pt_cmpR op_ne (pe_callB call_askE (by rfl) T.isinstance (by decide +kernel) (pa_cons (pv 1) (pa_cons (pe_glob (v := .ref (c 18)) (by rfl) (L.glob 18 (by decide)) rfl) pa_nil))) (pe_cmpR op_in_seq (pv 0) (pe_tup (pa_cons pe_int (pa_cons pe_int pa_nil))) rfl) (nomark _))))) (pss_one (ps_ret pe_bl)) pss_nil)
      (pss_cons (ps_if (pt_cmpR op_lt (pv 0) pe_int (nomark _)) (pss_one (ps_ret (pe_callB call_askE (by rfl) T.isinstance (by decide +kernel) (pa_cons (pv 1) (pa_cons (pe_bltn (v := .ty "ValueError") (u := .type "ValueError") (by rfl) T.ValueError (by decide +kernel) rfl) pa_nil))))) pss_nil)
      (pss_cons (ps_if (pt_cmpR op_lt (pv 0) pe_int (nomark _)) (pss_one (ps_ret (pe_callB call_askE (by rfl) T.isinstance (by decide +kernel) (pa_cons (pv 1) (pa_cons (pe_bltn (v := .ty "LookupError") (u := .type "LookupError") (by rfl) T.LookupError (by decide +kernel) rfl) pa_nil))))) pss_nil)
      (pss_one (ps_ret (pe_ifExp (pt_cmpR op_eq (pv 0) pe_int (nomark _)) (pe_callB call_askE (by rfl) T.isinstance (by decide +kernel) (pa_cons (pv 1) (pa_cons (pe_bltn (v := .ty "OverflowError") (u := .type "OverflowError") (by rfl) T.OverflowError (by decide +kernel) rfl) pa_nil))) (pe_callB call_askE (by rfl) T.isinstance (by decide +kernel) (pa_cons (pv 1) (pa_cons (pe_bltn (v := .ty "IndexError") (u := .type "IndexError") (by rfl) T.IndexError (by decide +kernel) rfl) pa_nil))))))))), ?_⟩
  try dsimp only [cxOf]
  rw [show L2.start N_law_is_based [.int 6, .ref a] = [some (.int 6), some (.ref a)] from rfl]
  walk_at "hgo"
  refine g_askN L (by decide) hx ?_
  walk_at "hx"
  try refine g_false (by decide) ?_
  walk_at "hx"
  refine g_askM L (by decide) hx ?_
  walk_at "hx"
  intro p n
  have S := same_new (o := .tup [V.int 13, V.int 14]) n
  walk_at "hx"
  refine g_inT upd_same rfl rfl ?_
  generalize upd _ p _ = G at S ⊢
  replace hx := hx.ext S
  walk_at "hx"
  try refine g_false (by decide) ?_
  walk_at "hgo"
  try refine g_true (by decide) ?_
  walk_at "hgo"
  refine g_askT L (by decide) (by decide +kernel) hx ?_
  rw [show (over c 6).contains (.type "ValueError") = true from by simp [over, tVE, tLE, tOE, tIE]]
  walk_at "hgo"
  exact k _ S
theorem go_based7 {cdv : Value} {A : Around} {outer : List Env} {s : Shared} {H : Hp} {Q : VK} {E : XK} {f : Addr} (L : Lay P w K mg base c) (T : TxtO mg) (hr : Room 0 (A.deeper (envOfC "_law_is_based" (defScope s_law_is_based) s.heap.objs.size f cdv))) {a : Addr} {fs : List (Str × V)} (hx : IsE (c 7) fs a H)
    (k : ∀ H', Same H H' → Q (.bl true) H') :
    ∃ t, PSs (cxOf CX0 P w K mg base N_law_is_based "_law_is_based" (defScope s_law_is_based) f cdv A outer s H E).nox (defBody s_law_is_based) t ∧ t { nx := fun _ H' => Q .non H', rt := Q } (start N_law_is_based [.int 7, .ref a]) H := by
  refine ⟨_, (pss_cons (ps_if (PW.pt (pw_or (pt_cmpR op_ne (pe_callB call_askE (by rfl) T.isinstance (by decide +kernel) (pa_cons (pv 1) (pa_cons (pe_glob (v := .ref (c 17)) (by rfl) (L.glob 17 (by decide)) rfl) pa_nil))) (pe_cmpR op_lt (pv 0) pe_int (nomark _)) (nomark _)) (pw_or1 (pt_cmpR op_ne (pe_callB call_askE (by rfl) T.isinstance (by decide +kernel) (pa_cons (pv 1) (pa_cons (pe_glob (v := .ref (c 18)) (by rfl) (L.glob 18 (by decide)) rfl) pa_nil))) (pe_cmpR op_in_seq (pv 0) (pe_tup (pa_cons pe_int (pa_cons pe_int pa_nil))) rfl) (nomark _))))) (pss_one (ps_ret pe_bl)) pss_nil)
      (pss_cons (ps_if (pt_cmpR op_lt (pv 0) pe_int (nomark _)) (pss_one (ps_ret (pe_callB call_askE (by rfl) T.isinstance (by decide +kernel) (pa_cons (pv 1) (pa_cons (pe_bltn (v := .ty "ValueError") (u := .type "ValueError") (by rfl) T.ValueError (by decide +kernel) rfl) pa_nil))))) pss_nil)
      (pss_cons (ps_if (pt_cmpR op_lt (pv 0) pe_int (nomark _)) (pss_one (ps_ret (pe_callB call_askE (by rfl) T.isinstance (by decide +kernel) (pa_cons (pv 1) (pa_cons (pe_bltn (v := .ty "LookupError") (u := .type "LookupError") (by rfl) T.LookupError (by decide +kernel) rfl) pa_nil))))) pss_nil)
      (pss_one (ps_ret (pe_ifExp (pt_cmpR op_eq (pv 0) pe_int (nomark _)) (pe_callB call_askE (by rfl) T.isinstance (by decide +kernel) (pa_cons (pv 1) (pa_cons (pe_bltn (v := .ty "OverflowError") (u := .type "OverflowError") (by rfl) T.OverflowError (by decide +kernel) rfl) pa_nil))) (pe_callB call_askE (by rfl) T.isinstance (by decide +kernel) (pa_cons (pv 1) (pa_cons (pe_bltn (v := .ty "IndexError") (u := .type "IndexError") (by rfl) T.IndexError (by decide +kernel) rfl) pa_nil))))))))), ?_⟩
  try dsimp only [cxOf]
  rw [show L2.start N_law_is_based [.int 7, .ref a] = [some (.int 7), some (.ref a)] from rfl]
  walk_at "hgo"
  refine g_askN L (by decide) hx ?_
  walk_at "hx"
  try refine g_false (by decide) ?_
  walk_at "hx"
  refine g_askM L (by decide) hx ?_
  walk_at "hx"
  intro p n
  have S := same_new (o := .tup [V.int 13, V.int 14]) n
  walk_at "hx"
  refine g_inT upd_same rfl rfl ?_
  generalize upd _ p _ = G at S ⊢
  replace hx := hx.ext S
  walk_at "hx"
  try refine g_false (by decide) ?_
  walk_at "hgo"
  try refine g_true (by decide) ?_
  walk_at "hgo"
  refine g_askT L (by decide) (by decide +kernel) hx ?_
  rw [show (over c 7).contains (.type "ValueError") = true from by simp [over, tVE, tLE, tOE, tIE]]
  walk_at "hgo"
  exact k _ S
theorem go_based8 {cdv : Value} {A : Around} {outer : List Env} {s : Shared} {H : Hp} {Q : VK} {E : XK} {f : Addr} (L : Lay P w K mg base c) (T : TxtO mg) (hr : Room 0 (A.deeper (envOfC "_law_is_based" (defScope s_law_is_based) s.heap.objs.size f cdv))) {a : Addr} {fs : List (Str × V)} (hx : IsE (c 8) fs a H)
    (k : ∀ H', Same H H' → Q (.bl true) H') :
    ∃ t, PSs (cxOf CX0 P w K mg base N_law_is_based "_law_is_based" (defScope s_law_is_based) f cdv A outer s H E).nox (defBody s_law_is_based) t ∧ t { nx := fun _ H' => Q .non H', rt := Q } (start N_law_is_based [.int 8, .ref a]) H := by
  refine ⟨_, (pss_cons (ps_if (PW.pt (pw_or (pt_cmpR op_ne (pe_callB call_askE (by rfl) T.isinstance (by decide +kernel) (pa_cons (pv 1) (pa_cons (pe_glob (v := .ref (c 17)) (by rfl) (L.glob 17 (by decide)) rfl) pa_nil))) (pe_cmpR op_lt (pv 0) pe_int (nomark _)) (nomark _)) (pw_or1 (pt_cmpR op_ne (pe_callB call_askE (by rfl) T.isinstance (by decide +kernel) (pa_cons (pv 1) (pa_cons (pe_glob (v := .ref (c 18)) (by rfl) (L.glob 18 (by decide)) rfl) pa_nil))) (pe_cmpR op_in_seq (pv 0) (pe_tup (pa_cons pe_int (pa_cons pe_int pa_nil))) rfl) (nomark _))))) (pss_one (ps_ret pe_bl)) pss_nil)
      (pss_cons (ps_if (pt_cmpR op_lt (pv 0) pe_int (nomark _)) (pss_one (ps_ret (pe_callB call_askE (by rfl) T.isinstance (by decide +kernel) (pa_cons (pv 1) (pa_cons (pe_bltn (v := .ty "ValueError") (u := .type "ValueError") (by rfl) T.ValueError (by decide +kernel) rfl) pa_nil))))) pss_nil)
      (pss_cons (ps_if (pt_cmpR op_lt (pv 0) pe_int (nomark _)) (pss_one (ps_ret (pe_callB call_askE (by rfl) T.isinstance (by decide +kernel) (pa_cons (pv 1) (pa_cons (pe_bltn (v := .ty "LookupError") (u := .type "LookupError") (by rfl) T.LookupError (by decide +kernel) rfl) pa_nil))))) pss_nil)
      (pss_one (ps_ret (pe_ifExp (pt_cmpR op_eq (pv 0) pe_int (nomark _)) (pe_callB call_askE (by rfl) T.isinstance (by decide +kernel) (pa_cons (pv 1) (pa_cons (pe_bltn (v := .ty "OverflowError") (u := .type "OverflowError") (by rfl) T.OverflowError (by decide +kernel) rfl) pa_nil))) (pe_callB call_askE (by rfl) T.isinstance (by decide +kernel) (pa_cons (pv 1) (pa_cons (pe_bltn (v := .ty "IndexError") (u := .type "IndexError") (by rfl) T.IndexError (by decide +kernel) rfl) pa_nil))))))))), ?_⟩
  try dsimp only [cxOf]
  rw [show L2.start N_law_is_based [.int 8, .ref a] = [some (.int 8), some (.ref a)] from rfl]
  walk_at "hgo"
  refine g_askN L (by decide) hx ?_
  walk_at "hx"
  try refine g_false (by decide) ?_
  walk_at "hx"
  refine g_askM L (by decide) hx ?_
  walk_at "hx"
  intro p n
  have S := same_new (o := .tup [V.int 13, V.int 14]) n
  walk_at "hx"
  refine g_inT upd_same rfl rfl ?_
  generalize upd _ p _ = G at S ⊢
  replace hx := hx.ext S
  walk_at "hx"
  try refine g_false (by decide) ?_
  walk_at "hgo"
  try refine g_true (by decide) ?_
  walk_at "hgo"
  refine g_askT L (by decide) (by decide +kernel) hx ?_
  rw [show (over c 8).contains (.type "ValueError") = true from by simp [over, tVE, tLE, tOE, tIE]]
  walk_at "hgo"
  exact k _ S
theorem go_based9 {cdv : Value} {A : Around} {outer : List Env} {s : Shared} {H : Hp} {Q : VK} {E : XK} {f : Addr} (L : Lay P w K mg base c) (T : TxtO mg) (hr : Room 0 (A.deeper (envOfC "_law_is_based" (defScope s_law_is_based) s.heap.objs.size f cdv))) {a : Addr} {fs : List (Str × V)} (hx : IsE (c 9) fs a H)
    (k : ∀ H', Same H H' → Q (.bl true) H') :
    ∃ t, PSs (cxOf CX0 P w K mg base N_law_is_based "_law_is_based" (defScope s_law_is_based) f cdv A outer s H E).nox (defBody s_law_is_based) t ∧ t { nx := fun _ H' => Q .non H', rt := Q } (start N_law_is_based [.int 9, .ref a]) H := by
  refine ⟨_, (pss_cons (ps_if (PW.pt (pw_or (pt_cmpR op_ne (pe_callB call_askE (by rfl) T.isinstance (by decide +kernel) (pa_cons (pv 1) (pa_cons (pe_glob (v := .ref (c 17)) (by rfl) (L.glob 17 (by decide)) rfl) pa_nil))) (pe_cmpR op_lt (pv 0) pe_int (nomark _)) (nomark _)) (pw_or1 (pt_cmpR op_ne (pe_callB call_askE (by rfl) T.isinstance (by decide +kernel) (pa_cons (pv 1) (pa_cons (pe_glob (v := .ref (c 18)) (by rfl) (L.glob 18 (by decide)) rfl) pa_nil))) (pe_cmpR op_in_seq (pv 0) (pe_tup (pa_cons pe_int (pa_cons pe_int pa_nil))) rfl) (nomark _))))) (pss_one (ps_ret pe_bl)) pss_nil)
      (pss_cons (ps_if (pt_cmpR op_lt (pv 0) pe_int (nomark _)) (pss_one (ps_ret (pe_callB call_askE (by rfl) T.isinstance (by decide +kernel) (pa_cons (pv 1) (pa_cons (pe_bltn (v := .ty "ValueError") (u := .type "ValueError") (by rfl) T.ValueError (by decide +kernel) rfl) pa_nil))))) pss_nil)
      (pss_cons (ps_if (pt_cmpR op_lt (pv 0) pe_int (nomark _)) (pss_one (ps_ret (pe_callB call_askE (by rfl) T.isinstance (by decide +kernel) (pa_cons (pv 1) (pa_cons (pe_bltn (v := .ty "LookupError") (u := .type "LookupError") (by rfl) T.LookupError (by decide +kernel) rfl) pa_nil))))) pss_nil)
      (pss_one (ps_ret (pe_ifExp (pt_cmpR op_eq (pv 0) pe_int (nomark _)) (pe_callB call_askE (by rfl) T.isinstance (by decide +kernel) (pa_cons (pv 1) (pa_cons (pe_bltn (v := .ty "OverflowError") (u := .type "OverflowError") (by rfl) T.OverflowError (by decide +kernel) rfl) pa_nil))) (pe_callB call_askE (by rfl) T.isinstance (by decide +kernel) (pa_cons (pv 1) (pa_cons (pe_bltn (v := .ty "IndexError") (u := .type "IndexError") (by rfl) T.IndexError (by decide +kernel) rfl) pa_nil))))))))), ?_⟩
  try dsimp only [cxOf]
  rw [show L2.start N_law_is_based [.int 9, .ref a] = [some (.int 9), some (.ref a)] from rfl]
  walk_at "hgo"
  refine g_askN L (by decide) hx ?_
  walk_at "hx"
  try refine g_false (by decide) ?_
  walk_at "hx"
  refine g_askM L (by decide) hx ?_
  walk_at "hx"
  intro p n
  have S := same_new (o := .tup [V.int 13, V.int 14]) n
  walk_at "hx"
  refine g_inT upd_same rfl rfl ?_
  generalize upd _ p _ = G at S ⊢
  replace hx := hx.ext S
  walk_at "hx"
  try refine g_false (by decide) ?_
  walk_at "hgo"
  try refine g_true (by decide) ?_
  walk_at "hgo"
  refine g_askT L (by decide) (by decide +kernel) hx ?_
  rw [show (over c 9).contains (.type "ValueError") = true from by simp [over, tVE, tLE, tOE, tIE]]
  walk_at "hgo"
  exact k _ S
theorem go_based10 {cdv : Value} {A : Around} {outer : List Env} {s : Shared} {H : Hp} {Q : VK} {E : XK} {f : Addr} (L : Lay P w K mg base c) (T : TxtO mg) (hr : Room 0 (A.deeper (envOfC "_law_is_based" (defScope s_law_is_based) s.heap.objs.size f cdv))) {a : Addr} {fs : List (Str × V)} (hx : IsE (c 10) fs a H)
    (k : ∀ H', Same H H' → Q (.bl true) H') :
    ∃ t, PSs (cxOf CX0 P w K mg base N_law_is_based "_law_is_based" (defScope s_law_is_based) f cdv A outer s H E).nox (defBody s_law_is_based) t ∧ t { nx := fun _ H' => Q .non H', rt := Q } (start N_law_is_based [.int 10, .ref a]) H := by
  refine ⟨_, (pss_cons (ps_if (PW.pt (pw_or (pt_cmpR op_ne (pe_callB call_askE (by rfl) T.isinstance (by decide +kernel) (pa_cons (pv 1) (pa_cons (pe_glob (v := .ref (c 17)) (by rfl) (L.glob 17 (by decide)) rfl) pa_nil))) (pe_cmpR op_lt (pv 0) pe_int (nomark _)) (nomark _)) (pw_or1 (pt_cmpR op_ne (pe_callB call_askE (by rfl) T.isinstance (by decide +kernel) (pa_cons (pv 1) (pa_cons (pe_glob (v := .ref (c 18)) (by rfl) (L.glob 18 (by decide)) rfl) pa_nil))) (pe_cmpR op_in_seq (pv 0) (pe_tup (pa_cons pe_int (pa_cons pe_int pa_nil))) rfl) (nomark _))))) (pss_one (ps_ret pe_bl)) pss_nil)
      (pss_cons (ps_if (pt_cmpR op_lt (pv 0) pe_int (nomark _)) (pss_one (ps_ret (pe_callB call_askE (by rfl) T.isinstance (by decide +kernel) (pa_cons (pv 1) (pa_cons (pe_bltn (v := .ty "ValueError") (u := .type "ValueError") (by rfl) T.ValueError (by decide +kernel) rfl) pa_nil))))) pss_nil)
      (pss_cons (ps_if (pt_cmpR op_lt (pv 0) pe_int (nomark _)) (pss_one (ps_ret (pe_callB call_askE (by rfl) T.isinstance (by decide +kernel) (pa_cons (pv 1) (pa_cons (pe_bltn (v := .ty "LookupError") (u := .type "LookupError") (by rfl) T.LookupError (by decide +kernel) rfl) pa_nil))))) pss_nil)
      (pss_one (ps_ret (pe_ifExp (pt_cmpR op_eq (pv 0) pe_int (nomark _)) (pe_callB call_askE (by rfl) T.isinstance (by decide +kernel) (pa_cons (pv 1) (pa_cons (pe_bltn (v := .ty "OverflowError") (u := .type "OverflowError") (by rfl) T.OverflowError (by decide +kernel) rfl) pa_nil))) (pe_callB call_askE (by rfl) T.isinstance (by decide +kernel) (pa_cons (pv 1) (pa_cons (pe_bltn (v := .ty "IndexError") (u := .type "IndexError") (by rfl) T.IndexError (by decide +kernel) rfl) pa_nil))))))))), ?_⟩
  try dsimp only [cxOf]
  rw [show L2.start N_law_is_based [.int 10, .ref a] = [some (.int 10), some (.ref a)] from rfl]
  walk_at "hgo"
  refine g_askN L (by decide) hx ?_
  walk_at "hx"
  try refine g_false (by decide) ?_
  walk_at "hx"
  refine g_askM L (by decide) hx ?_
  walk_at "hx"
  intro p n
  have S := same_new (o := .tup [V.int 13, V.int 14]) n
  walk_at "hx"
  refine g_inT upd_same rfl rfl ?_
  generalize upd _ p _ = G at S ⊢
  replace hx := hx.ext S
  walk_at "hx"
  try refine g_false (by decide) ?_
  walk_at "hgo"
  try refine g_true (by decide) ?_
  walk_at "hgo"
  refine g_askT L (by decide) (by decide +kernel) hx ?_
  rw [show (over c 10).contains (.type "ValueError") = true from by simp [over, tVE, tLE, tOE, tIE]]
  walk_at "hgo"
  exact k _ S
theorem go_based11 {cdv : Value} {A : Around} {outer : List Env} {s : Shared} {H : Hp} {Q : VK} {E : XK} {f : Addr} (L : Lay P w K mg base c) (T : TxtO mg) (hr : Room 0 (A.deeper (envOfC "_law_is_based" (defScope s_law_is_based) s.heap.objs.size f cdv))) {a : Addr} {fs : List (Str × V)} (hx : IsE (c 11) fs a H)
    (k : ∀ H', Same H H' → Q (.bl true) H') :
    ∃ t, PSs (cxOf CX0 P w K mg base N_law_is_based "_law_is_based" (defScope s_law_is_based) f cdv A outer s H E).nox (defBody s_law_is_based) t ∧ t { nx := fun _ H' => Q .non H', rt := Q } (start N_law_is_based [.int 11, .ref a]) H := by
  refine ⟨_, (pss_cons (ps_if (PW.pt (pw_or (pt_cmpR op_ne (pe_callB call_askE (by rfl) T.isinstance (by decide +kernel) (pa_cons (pv 1) (pa_cons (pe_glob (v := .ref (c 17)) (by rfl) (L.glob 17 (by decide)) rfl) pa_nil))) (pe_cmpR op_lt (pv 0) pe_int (nomark _)) (nomark _)) (pw_or1 (pt_cmpR op_ne (pe_callB call_askE (by rfl) T.isinstance (by decide +kernel) (pa_cons (pv 1) (pa_cons (pe_glob (v := .ref (c 18)) (by rfl) (L.glob 18 (by decide)) rfl) pa_nil))) (pe_cmpR op_in_seq (pv 0) (pe_tup (pa_cons pe_int (pa_cons pe_int pa_nil))) rfl) (nomark _))))) (pss_one (ps_ret pe_bl)) pss_nil)
      (pss_cons (ps_if (pt_cmpR op_lt (pv 0) pe_int (nomark _)) (pss_one (ps_ret (pe_callB call_askE (by rfl) T.isinstance (by decide +kernel) (pa_cons (pv 1) (pa_cons (pe_bltn (v := .ty "ValueError") (u := .type "ValueError") (by rfl) T.ValueError (by decide +kernel) rfl) pa_nil))))) pss_nil)
      (pss_cons (ps_if (pt_cmpR op_lt (pv 0) pe_int (nomark _)) (pss_one (ps_ret (pe_callB call_askE (by rfl) T.isinstance (by decide +kernel) (pa_cons (pv 1) (pa_cons (pe_bltn (v := .ty "LookupError") (u := .type "LookupError") (by rfl) T.LookupError (by decide +kernel) rfl) pa_nil))))) pss_nil)
      (pss_one (ps_ret (pe_ifExp (pt_cmpR op_eq (pv 0) pe_int (nomark _)) (pe_callB call_askE (by rfl) T.isinstance (by decide +kernel) (pa_cons (pv 1) (pa_cons (pe_bltn (v := .ty "OverflowError") (u := .type "OverflowError") (by rfl) T.OverflowError (by decide +kernel) rfl) pa_nil))) (pe_callB call_askE (by rfl) T.isinstance (by decide +kernel) (pa_cons (pv 1) (pa_cons (pe_bltn (v := .ty "IndexError") (u := .type "IndexError") (by rfl) T.IndexError (by decide +kernel) rfl) pa_nil))))))))), ?_⟩
  try dsimp only [cxOf]
  rw [show L2.start N_law_is_based [.int 11, .ref a] = [some (.int 11), some (.ref a)] from rfl]
  walk_at "hgo"
  refine g_askN L (by decide) hx ?_
  walk_at "hx"
  try refine g_false (by decide) ?_
  walk_at "hx"
  refine g_askM L (by decide) hx ?_
  walk_at "hx"
  intro p n
  have S := same_new (o := .tup [V.int 13, V.int 14]) n
  walk_at "hx"
  refine g_inT upd_same rfl rfl ?_
  generalize upd _ p _ = G at S ⊢
  replace hx := hx.ext S
  walk_at "hx"
  try refine g_false (by decide) ?_
  walk_at "hgo"
  try refine g_true (by decide) ?_
  walk_at "hgo"
  refine g_askT L (by decide) (by decide +kernel) hx ?_
  rw [show (over c 11).contains (.type "ValueError") = true from by simp [over, tVE, tLE, tOE, tIE]]
  walk_at "hgo"
  exact k _ S
theorem go_based12 {cdv : Value} {A : Around} {outer : List Env} {s : Shared} {H : Hp} {Q : VK} {E : XK} {f : Addr} (L : Lay P w K mg base c) (T : TxtO mg) (hr : Room 0 (A.deeper (envOfC "_law_is_based" (defScope s_law_is_based) s.heap.objs.size f cdv))) {a : Addr} {fs : List (Str × V)} (hx : IsE (c 12) fs a H)
    (k : ∀ H', Same H H' → Q (.bl true) H') :
    ∃ t, PSs (cxOf CX0 P w K mg base N_law_is_based "_law_is_based" (defScope s_law_is_based) f cdv A outer s H E).nox (defBody s_law_is_based) t ∧ t { nx := fun _ H' => Q .non H', rt := Q } (start N_law_is_based [.int 12, .ref a]) H := by
  refine ⟨_, (pss_cons (ps_if (PW.pt (pw_or (pt_cmpR op_ne (pe_callB call_askE (by rfl) T.isinstance (by decide +kernel) (pa_cons (pv 1) (pa_cons (pe_glob (v := .ref (c 17)) (by rfl) (L.glob 17 (by decide)) rfl) pa_nil))) (pe_cmpR op_lt (pv 0) pe_int (nomark _)) (nomark _)) (pw_or1 (pt_cmpR op_ne (pe_callB call_askE (by rfl) T.isinstance (by decide +kernel) (pa_cons (pv 1) (pa_cons (pe_glob (v := .ref (c 18)) (by rfl) (L.glob 18 (by decide)) rfl) pa_nil))) (pe_cmpR op_in_seq (pv 0) (pe_tup (pa_cons pe_int (pa_cons pe_int pa_nil))) rfl) (nomark _))))) (pss_one (ps_ret pe_bl)) pss_nil)
      (pss_cons (ps_if (pt_cmpR op_lt (pv 0) pe_int (nomark _)) (pss_one (ps_ret (pe_callB call_askE (by rfl) T.isinstance (by decide +kernel) (pa_cons (pv 1) (pa_cons (pe_bltn (v := .ty "ValueError") (u := .type "ValueError") (by rfl) T.ValueError (by decide +kernel) rfl) pa_nil))))) pss_nil)
      (pss_cons (ps_if (pt_cmpR op_lt (pv 0) pe_int (nomark _)) (pss_one (ps_ret (pe_callB call_askE (by rfl) T.isinstance (by decide +kernel) (pa_cons (pv 1) (pa_cons (pe_bltn (v := .ty "LookupError") (u := .type "LookupError") (by rfl) T.LookupError (by decide +kernel) rfl) pa_nil))))) pss_nil)
      (pss_one (ps_ret (pe_ifExp (pt_cmpR op_eq (pv 0) pe_int (nomark _)) (pe_callB call_askE (by rfl) T.isinstance (by decide +kernel) (pa_cons (pv 1) (pa_cons (pe_bltn (v := .ty "OverflowError") (u := .type "OverflowError") (by rfl) T.OverflowError (by decide +kernel) rfl) pa_nil))) (pe_callB call_askE (by rfl) T.isinstance (by decide +kernel) (pa_cons (pv 1) (pa_cons (pe_bltn (v := .ty "IndexError") (u := .type "IndexError") (by rfl) T.IndexError (by decide +kernel) rfl) pa_nil))))))))), ?_⟩
  try dsimp only [cxOf]
  rw [show L2.start N_law_is_based [.int 12, .ref a] = [some (.int 12), some (.ref a)] from rfl]
  walk_at "hgo"
  refine g_askN L (by decide) hx ?_
  walk_at "hx"
  try refine g_false (by decide) ?_
  walk_at "hx"
  refine g_askM L (by decide) hx ?_
  walk_at "hx"
  intro p n
  have S := same_new (o := .tup [V.int 13, V.int 14]) n
  walk_at "hx"
  refine g_inT upd_same rfl rfl ?_
  generalize upd _ p _ = G at S ⊢
  replace hx := hx.ext S
  walk_at "hx"
  try refine g_false (by decide) ?_
  walk_at "hgo"
  try refine g_true (by decide) ?_
  walk_at "hgo"
  refine g_askT L (by decide) (by decide +kernel) hx ?_
  rw [show (over c 12).contains (.type "ValueError") = true from by simp [over, tVE, tLE, tOE, tIE]]
  walk_at "hgo"
  exact k _ S
theorem go_based13 {cdv : Value} {A : Around} {outer : List Env} {s : Shared} {H : Hp} {Q : VK} {E : XK} {f : Addr} (L : Lay P w K mg base c) (T : TxtO mg) (hr : Room 0 (A.deeper (envOfC "_law_is_based" (defScope s_law_is_based) s.heap.objs.size f cdv))) {a : Addr} {fs : List (Str × V)} (hx : IsE (c 13) fs a H)
    (k : ∀ H', Same H H' → Q (.bl true) H') :
    ∃ t, PSs (cxOf CX0 P w K mg base N_law_is_based "_law_is_based" (defScope s_law_is_based) f cdv A outer s H E).nox (defBody s_law_is_based) t ∧ t { nx := fun _ H' => Q .non H', rt := Q } (start N_law_is_based [.int 13, .ref a]) H := by
  refine ⟨_, (pss_cons (ps_if (PW.pt (pw_or (pt_cmpR op_ne (pe_callB call_askE (by rfl) T.isinstance (by decide +kernel) (pa_cons (pv 1) (pa_cons (pe_glob (v := .ref (c 17)) (by rfl) (L.glob 17 (by decide)) rfl) pa_nil))) (pe_cmpR op_lt (pv 0) pe_int (nomark _)) (nomark _)) (pw_or1 (pt_cmpR op_ne (pe_callB call_askE (by rfl) T.isinstance (by decide +kernel) (pa_cons (pv 1) (pa_cons (pe_glob (v := .ref (c 18)) (by rfl) (L.glob 18 (by decide)) rfl) pa_nil))) (pe_cmpR op_in_seq (pv 0) (pe_tup (pa_cons pe_int (pa_cons pe_int pa_nil))) rfl) (nomark _))))) (pss_one (ps_ret pe_bl)) pss_nil)
      (pss_cons (ps_if (pt_cmpR op_lt (pv 0) pe_int (nomark _)) (pss_one (ps_ret (pe_callB call_askE (by rfl) T.isinstance (by decide +kernel) (pa_cons (pv 1) (pa_cons (pe_bltn (v := .ty "ValueError") (u := .type "ValueError") (by rfl) T.ValueError (by decide +kernel) rfl) pa_nil))))) pss_nil)
      (pss_cons (ps_if (pt_cmpR op_lt (pv 0) pe_int (nomark _)) (pss_one (ps_ret (pe_callB call_askE (by rfl) T.isinstance (by decide +kernel) (pa_cons (pv 1) (pa_cons (pe_bltn (v := .ty "LookupError") (u := .type "LookupError") (by rfl) T.LookupError (by decide +kernel) rfl) pa_nil))))) pss_nil)
      (pss_one (ps_ret (pe_ifExp (pt_cmpR op_eq (pv 0) pe_int (nomark _)) (pe_callB call_askE (by rfl) T.isinstance (by decide +kernel) (pa_cons (pv 1) (pa_cons (pe_bltn (v := .ty "OverflowError") (u := .type "OverflowError") (by rfl) T.OverflowError (by decide +kernel) rfl) pa_nil))) (pe_callB call_askE (by rfl) T.isinstance (by decide +kernel) (pa_cons (pv 1) (pa_cons (pe_bltn (v := .ty "IndexError") (u := .type "IndexError") (by rfl) T.IndexError (by decide +kernel) rfl) pa_nil))))))))), ?_⟩
  try dsimp only [cxOf]
  rw [show L2.start N_law_is_based [.int 13, .ref a] = [some (.int 13), some (.ref a)] from rfl]
  walk_at "hgo"
  refine g_askN L (by decide) hx ?_
  walk_at "hx"
  try refine g_false (by decide) ?_
  walk_at "hx"
  refine g_askM L (by decide) hx ?_
  walk_at "hx"
  intro p n
  have S := same_new (o := .tup [V.int 13, V.int 14]) n
  walk_at "hx"
  refine g_inT upd_same rfl rfl ?_
  generalize upd _ p _ = G at S ⊢
  replace hx := hx.ext S
  walk_at "hx"
  try refine g_false (by decide) ?_
  walk_at "hgo"
  try refine g_false (by decide) ?_
  walk_at "hgo"
  try refine g_true (by decide) ?_
  walk_at "hgo"
  refine g_askT L (by decide) (by decide +kernel) hx ?_
  rw [show (over c 13).contains (.type "LookupError") = true from by simp [over, tVE, tLE, tOE, tIE]]
  walk_at "hgo"
  exact k _ S
theorem go_based14 {cdv : Value} {A : Around} {outer : List Env} {s : Shared} {H : Hp} {Q : VK} {E : XK} {f : Addr} (L : Lay P w K mg base c) (T : TxtO mg) (hr : Room 0 (A.deeper (envOfC "_law_is_based" (defScope s_law_is_based) s.heap.objs.size f cdv))) {a : Addr} {fs : List (Str × V)} (hx : IsE (c 14) fs a H)
    (k : ∀ H', Same H H' → Q (.bl true) H') :
    ∃ t, PSs (cxOf CX0 P w K mg base N_law_is_based "_law_is_based" (defScope s_law_is_based) f cdv A outer s H E).nox (defBody s_law_is_based) t ∧ t { nx := fun _ H' => Q .non H', rt := Q } (start N_law_is_based [.int 14, .ref a]) H := by
  refine ⟨_, (pss_cons (ps_if (PW.pt (pw_or (pt_cmpR op_ne (pe_callB call_askE (by rfl) T.isinstance (by decide +kernel) (pa_cons (pv 1) (pa_cons (pe_glob (v := .ref (c 17)) (by rfl) (L.glob 17 (by decide)) rfl) pa_nil))) (pe_cmpR op_lt (pv 0) pe_int (nomark _)) (nomark _)) (pw_or1 (pt_cmpR op_ne (pe_callB call_askE (by rfl) T.isinstance (by decide +kernel) (pa_cons (pv 1) (pa_cons (pe_glob (v := .ref (c 18)) (by rfl) (L.glob 18 (by decide)) rfl) pa_nil))) (pe_cmpR op_in_seq (pv 0) (pe_tup (pa_cons pe_int (pa_cons pe_int pa_nil))) rfl) (nomark _))))) (pss_one (ps_ret pe_bl)) pss_nil)
      (pss_cons (ps_if (pt_cmpR op_lt (pv 0) pe_int (nomark _)) (pss_one (ps_ret (pe_callB call_askE (by rfl) T.isinstance (by decide +kernel) (pa_cons (pv 1) (pa_cons (pe_bltn (v := .ty "ValueError") (u := .type "ValueError") (by rfl) T.ValueError (by decide +kernel) rfl) pa_nil))))) pss_nil)
      (pss_cons (ps_if (pt_cmpR op_lt (pv 0) pe_int (nomark _)) (pss_one (ps_ret (pe_callB call_askE (by rfl) T.isinstance (by decide +kernel) (pa_cons (pv 1) (pa_cons (pe_bltn (v := .ty "LookupError") (u := .type "LookupError") (by rfl) T.LookupError (by decide +kernel) rfl) pa_nil))))) pss_nil)
      (pss_one (ps_ret (pe_ifExp (pt_cmpR op_eq (pv 0) pe_int (nomark _)) (pe_callB call_askE (by rfl) T.isinstance (by decide +kernel) (pa_cons (pv 1) (pa_cons (pe_bltn (v := .ty "OverflowError") (u := .type "OverflowError") (by rfl) T.OverflowError (by decide +kernel) rfl) pa_nil))) (pe_callB call_askE (by rfl) T.isinstance (by decide +kernel) (pa_cons (pv 1) (pa_cons (pe_bltn (v := .ty "IndexError") (u := .type "IndexError") (by rfl) T.IndexError (by decide +kernel) rfl) pa_nil))))))))), ?_⟩
  try dsimp only [cxOf]
  rw [show L2.start N_law_is_based [.int 14, .ref a] = [some (.int 14), some (.ref a)] from rfl]
  walk_at "hgo"
  refine g_askN L (by decide) hx ?_
  walk_at "hx"
  try refine g_false (by decide) ?_
  walk_at "hx"
  refine g_askM L (by decide) hx ?_
  walk_at "hx"
  intro p n
  have S := same_new (o := .tup [V.int 13, V.int 14]) n
  walk_at "hx"
  refine g_inT upd_same rfl rfl ?_
  generalize upd _ p _ = G at S ⊢
  replace hx := hx.ext S
  walk_at "hx"
  try refine g_false (by decide) ?_
  walk_at "hgo"
  try refine g_false (by decide) ?_
  walk_at "hgo"
  try refine g_true (by decide) ?_
  walk_at "hgo"
  refine g_askT L (by decide) (by decide +kernel) hx ?_
  rw [show (over c 14).contains (.type "LookupError") = true from by simp [over, tVE, tLE, tOE, tIE]]
  walk_at "hgo"
  exact k _ S
theorem go_based15 {cdv : Value} {A : Around} {outer : List Env} {s : Shared} {H : Hp} {Q : VK} {E : XK} {f : Addr} (L : Lay P w K mg base c) (T : TxtO mg) (hr : Room 0 (A.deeper (envOfC "_law_is_based" (defScope s_law_is_based) s.heap.objs.size f cdv))) {a : Addr} {fs : List (Str × V)} (hx : IsE (c 15) fs a H)
    (k : ∀ H', Same H H' → Q (.bl true) H') :
    ∃ t, PSs (cxOf CX0 P w K mg base N_law_is_based "_law_is_based" (defScope s_law_is_based) f cdv A outer s H E).nox (defBody s_law_is_based) t ∧ t { nx := fun _ H' => Q .non H', rt := Q } (start N_law_is_based [.int 15, .ref a]) H := by
  refine ⟨_, (pss_cons (ps_if (PW.pt (pw_or (pt_cmpR op_ne (pe_callB call_askE (by rfl) T.isinstance (by decide +kernel) (pa_cons (pv 1) (pa_cons (pe_glob (v := .ref (c 17)) (by rfl) (L.glob 17 (by decide)) rfl) pa_nil))) (pe_cmpR op_lt (pv 0) pe_int (nomark _)) (nomark _)) (pw_or1 (pt_cmpR op_ne (pe_callB call_askE (by rfl) T.isinstance (by decide +kernel) (pa_cons (pv 1) (pa_cons (pe_glob (v := .ref (c 18)) (by rfl) (L.glob 18 (by decide)) rfl) pa_nil))) (pe_cmpR op_in_seq (pv 0) (pe_tup (pa_cons pe_int (pa_cons pe_int pa_nil))) rfl) (nomark _))))) (pss_one (ps_ret pe_bl)) pss_nil)
      (pss_cons (ps_if (pt_cmpR op_lt (pv 0) pe_int (nomark _)) (pss_one (ps_ret (pe_callB call_askE (by rfl) T.isinstance (by decide +kernel) (pa_cons (pv 1) (pa_cons (pe_bltn (v := .ty "ValueError") (u := .type "ValueError") (by rfl) T.ValueError (by decide +kernel) rfl) pa_nil))))) pss_nil)
      (pss_cons (ps_if (pt_cmpR op_lt (pv 0) pe_int (nomark _)) (pss_one (ps_ret (pe_callB call_askE (by rfl) T.isinstance (by decide +kernel) (pa_cons (pv 1) (pa_cons (pe_bltn (v := .ty "LookupError") (u := .type "LookupError") (by rfl) T.LookupError (by decide +kernel) rfl) pa_nil))))) pss_nil)
      (pss_one (ps_ret (pe_ifExp (pt_cmpR op_eq (pv 0) pe_int (nomark _)) (pe_callB call_askE (by rfl) T.isinstance (by decide +kernel) (pa_cons (pv 1) (pa_cons (pe_bltn (v := .ty "OverflowError") (u := .type "OverflowError") (by rfl) T.OverflowError (by decide +kernel) rfl) pa_nil))) (pe_callB call_askE (by rfl) T.isinstance (by decide +kernel) (pa_cons (pv 1) (pa_cons (pe_bltn (v := .ty "IndexError") (u := .type "IndexError") (by rfl) T.IndexError (by decide +kernel) rfl) pa_nil))))))))), ?_⟩
  try dsimp only [cxOf]
  rw [show L2.start N_law_is_based [.int 15, .ref a] = [some (.int 15), some (.ref a)] from rfl]
  walk_at "hgo"
  refine g_askN L (by decide) hx ?_
  walk_at "hx"
  try refine g_false (by decide) ?_
  walk_at "hx"
  refine g_askM L (by decide) hx ?_
  walk_at "hx"
  intro p n
  have S := same_new (o := .tup [V.int 13, V.int 14]) n
  walk_at "hx"
  refine g_inT upd_same rfl rfl ?_
  generalize upd _ p _ = G at S ⊢
  replace hx := hx.ext S
  walk_at "hx"
  try refine g_false (by decide) ?_
  walk_at "hgo"
  try refine g_false (by decide) ?_
  walk_at "hgo"
  try refine g_false (by decide) ?_
  walk_at "hgo"
  try refine g_true (by decide) ?_
  walk_at "hgo"
  refine g_askT L (by decide) (by decide +kernel) hx ?_
  rw [show (over c 15).contains (.type "OverflowError") = true from by simp [over, tVE, tLE, tOE, tIE]]
  walk_at "hgo"
  exact k _ S
theorem go_based16 {cdv : Value} {A : Around} {outer : List Env} {s : Shared} {H : Hp} {Q : VK} {E : XK} {f : Addr} (L : Lay P w K mg base c) (T : TxtO mg) (hr : Room 0 (A.deeper (envOfC "_law_is_based" (defScope s_law_is_based) s.heap.objs.size f cdv))) {a : Addr} {fs : List (Str × V)} (hx : IsE (c 16) fs a H)
    (k : ∀ H', Same H H' → Q (.bl true) H') :
    ∃ t, PSs (cxOf CX0 P w K mg base N_law_is_based "_law_is_based" (defScope s_law_is_based) f cdv A outer s H E).nox (defBody s_law_is_based) t ∧ t { nx := fun _ H' => Q .non H', rt := Q } (start N_law_is_based [.int 16, .ref a]) H := by
  refine ⟨_, (pss_cons (ps_if (PW.pt (pw_or (pt_cmpR op_ne (pe_callB call_askE (by rfl) T.isinstance (by decide +kernel) (pa_cons (pv 1) (pa_cons (pe_glob (v := .ref (c 17)) (by rfl) (L.glob 17 (by decide)) rfl) pa_nil))) (pe_cmpR op_lt (pv 0) pe_int (nomark _)) (nomark _)) (pw_or1 (pt_cmpR op_ne (pe_callB call_askE (by rfl) T.isinstance (by decide +kernel) (pa_cons (pv 1) (pa_cons (pe_glob (v := .ref (c 18)) (by rfl) (L.glob 18 (by decide)) rfl) pa_nil))) (pe_cmpR op_in_seq (pv 0) (pe_tup (pa_cons pe_int (pa_cons pe_int pa_nil))) rfl) (nomark _))))) (pss_one (ps_ret pe_bl)) pss_nil)
      (pss_cons (ps_if (pt_cmpR op_lt (pv 0) pe_int (nomark _)) (pss_one (ps_ret (pe_callB call_askE (by rfl) T.isinstance (by decide +kernel) (pa_cons (pv 1) (pa_cons (pe_bltn (v := .ty "ValueError") (u := .type "ValueError") (by rfl) T.ValueError (by decide +kernel) rfl) pa_nil))))) pss_nil)
      (pss_cons (ps_if (pt_cmpR op_lt (pv 0) pe_int (nomark _)) (pss_one (ps_ret (pe_callB call_askE (by rfl) T.isinstance (by decide +kernel) (pa_cons (pv 1) (pa_cons (pe_bltn (v := .ty "LookupError") (u := .type "LookupError") (by rfl) T.LookupError (by decide +kernel) rfl) pa_nil))))) pss_nil)
      (pss_one (ps_ret (pe_ifExp (pt_cmpR op_eq (pv 0) pe_int (nomark _)) (pe_callB call_askE (by rfl) T.isinstance (by decide +kernel) (pa_cons (pv 1) (pa_cons (pe_bltn (v := .ty "OverflowError") (u := .type "OverflowError") (by rfl) T.OverflowError (by decide +kernel) rfl) pa_nil))) (pe_callB call_askE (by rfl) T.isinstance (by decide +kernel) (pa_cons (pv 1) (pa_cons (pe_bltn (v := .ty "IndexError") (u := .type "IndexError") (by rfl) T.IndexError (by decide +kernel) rfl) pa_nil))))))))), ?_⟩
  try dsimp only [cxOf]
  rw [show L2.start N_law_is_based [.int 16, .ref a] = [some (.int 16), some (.ref a)] from rfl]
  walk_at "hgo"
  refine g_askN L (by decide) hx ?_
  walk_at "hx"
  try refine g_false (by decide) ?_
  walk_at "hx"
  refine g_askM L (by decide) hx ?_
  walk_at "hx"
  intro p n
  have S := same_new (o := .tup [V.int 13, V.int 14]) n
  walk_at "hx"
  refine g_inT upd_same rfl rfl ?_
  generalize upd _ p _ = G at S ⊢
  replace hx := hx.ext S
  walk_at "hx"
  try refine g_false (by decide) ?_
  walk_at "hgo"
  try refine g_false (by decide) ?_
  walk_at "hgo"
  try refine g_false (by decide) ?_
  walk_at "hgo"
  try refine g_false (by decide) ?_
  walk_at "hgo"
  refine g_askT L (by decide) (by decide +kernel) hx ?_
  rw [show (over c 16).contains (.type "IndexError") = true from by simp [over, tVE, tLE, tOE, tIE]]
  walk_at "hgo"
  exact k _ S
theorem ok_law_is_based {f : Addr} {fd : FuncData} (F : Fun K "_law_is_based" "_law_is_based" s_law_is_based f fd) (L : Lay P w K mg base c) (T : TxtO mg) : FnOk P w K mg base CX0 1 f fd ["_law_k", "_law_caught"] (spBased c) := by
  refine F.ok sc_law_is_based (fun vs H Q E h => ?_) (fun cdv A outer s H vs Q E hr h => ?_)
  · obtain ⟨i, a, fs, rfl, _⟩ := h
    rfl
  · obtain ⟨i, a, fs, rfl, hi, hx, k⟩ := h
    have jj : i = 0 ∨ i = 1 ∨ i = 2 ∨ i = 3 ∨ i = 4 ∨ i = 5 ∨ i = 6 ∨ i = 7 ∨ i = 8 ∨ i = 9 ∨ i = 10 ∨ i = 11 ∨ i = 12 ∨ i = 13 ∨ i = 14 ∨ i = 15 ∨ i = 16 := by omega
    rcases jj with rfl | rfl | rfl | rfl | rfl | rfl | rfl | rfl | rfl | rfl | rfl | rfl | rfl | rfl | rfl | rfl | rfl
    · exact go_based0 L T hr hx k
    · exact go_based1 L T hr hx k
    · exact go_based2 L T hr hx k
    · exact go_based3 L T hr hx k
    · exact go_based4 L T hr hx k
    · exact go_based5 L T hr hx k
    · exact go_based6 L T hr hx k
    · exact go_based7 L T hr hx k
    · exact go_based8 L T hr hx k
    · exact go_based9 L T hr hx k
    · exact go_based10 L T hr hx k
    · exact go_based11 L T hr hx k
    · exact go_based12 L T hr hx k
    · exact go_based13 L T hr hx k
    · exact go_based14 L T hr hx k
    · exact go_based15 L T hr hx k
    · exact go_based16 L T hr hx k
end

structure TxtL (mg : Str → Option Value) : Prop where
  repr : mg "repr" = none
  list : mg "list" = none
  enumerate : mg "enumerate" = none
  range : mg "range" = none
  int : mg "int" = none
  isinstance : mg "isinstance" = none
  ValueError : mg "ValueError" = none
  LookupError : mg "LookupError" = none
def spLaw (K : PySem.W.Frag) : Sp := fun vs H Q _ => ∃ (a : Addr) (ns : List Int), vs = [.ref a] ∧ SqL K H a (ns.map V.int) ∧ ns.length ≤ 63 ∧ ∀ H', Q (.bl true) H'
theorem g_par {i j : Nat} {ta : TA} {D : Ends} {σ : L2.St} {H : Hp} (h : ta σ H fun vs H1 => ∃ v w, vs = [v, w] ∧ D.nx ((σ.set i (some v)).set j (some w)) H1) : tPar i j ta D σ H := h
/-- the data of the fields -/
def dvals (i : Nat) (d e : PyData) : List PyData := if i = 0 then [] else if i = 3 ∨ i = 11 then [d, e] else [d]
theorem dx_vals {H : Hp} {x y : V} {d e : PyData} (i : Nat) (hd : Dx H x d) (he : Dx H y e) : DxAll H (vals i x y) (dvals i d e) := by
  unfold vals dvals
  split
  · exact .nil
  · split
    · exact .cons hd (.cons he .nil)
    · exact .cons hd .nil
theorem len_text1 (s : Str) : (listText [s]).length ≤ s.length + 10 := by
  show ((("[" : Str) ++ (if 0 > 0 then ", " else "" : String) ++ s) ++ ("]" : Str)).length ≤ _
  rw [Str.length_append, Str.length_append, Str.length_append]
  have h1 : ("[" : Str).length = 1 := by decide +kernel
  have h2 : (Str.ofString (if 0 > 0 then ", " else "" : String)).length = 0 := by decide +kernel
  have h3 : ("]" : Str).length = 1 := by decide +kernel
  omega
theorem len_text2 (s t : Str) : (listText [s, t]).length ≤ s.length + t.length + 10 := by
  show (((("[" : Str) ++ (if 0 > 0 then ", " else "" : String) ++ s) ++ (if 0 + 1 > 0 then ", " else "" : String) ++ t) ++ ("]" : Str)).length ≤ _
  rw [Str.length_append, Str.length_append, Str.length_append, Str.length_append, Str.length_append]
  have h1 : ("[" : Str).length = 1 := by decide +kernel
  have h2 : (Str.ofString (if 0 > 0 then ", " else "" : String)).length = 0 := by decide +kernel
  have h4 : (Str.ofString (if 0 + 1 > 0 then ", " else "" : String)).length = 2 := by decide +kernel
  have h3 : ("]" : Str).length = 1 := by decide +kernel
  omega
theorem fit_vals {d e : PyData} (i : Nat) (hd : Fit d) (he : Fit e) : (PyData.list (dvals i d e)).showable = true ∧ (PyData.list (dvals i d e)).depth ≤ 40 ∧ (PyData.list (dvals i d e)).shown.length ≤ sizeLine := by
  have big : 3000 ≤ sizeLine := by decide
  have a1 := hd.show'
  have a2 := he.show'
  have b1 := hd.dep
  have b2 := he.dep
  have c1 := hd.len
  have c2 := he.len
  unfold dvals
  split
  · exact ⟨by decide +kernel, by decide +kernel, by decide +kernel⟩
  · split
    · refine ⟨by simp [PyData.showable, PyData.showableAll, a1, a2], by simp [PyData.depth, PyData.depthAll]; omega, ?_⟩
      have l := len_text2 d.shown e.shown
      simp only [PyData.shown, PyData.shownAll]
      omega
    · refine ⟨by simp [PyData.showable, PyData.showableAll, a1], by simp [PyData.depth, PyData.depthAll]; omega, ?_⟩
      have l := len_text1 d.shown
      simp only [PyData.shown, PyData.shownAll]
      omega
theorem inV_two : ∀ i < 17, inV (.int ((i : Nat) : Int)) [V.int 3, V.int 11] = decide (i = 3 ∨ i = 11) := by decide
theorem vals_len (i : Nat) (h : i < 17) (x y : V) : (vals i x y).length = (fld i).length := by
  have e : ∀ j < 17, (if j = 0 then 0 else if j = 3 ∨ j = 11 then 2 else 1) = (fld j).length := by decide +kernel
  rw [← e i h]
  unfold vals
  split
  · rfl
  · split <;> rfl
/-- a pair of the number of a class and an error of it -/
def Elt (c : Nat → Addr) (x y : V) (H : Hp) (v : V) : Prop := ∃ (t a : Addr) (i : Nat), v = .ref t ∧ H t = some (.tup [.int (i : Int), .ref a]) ∧ i < 17 ∧ IsE (c i) (FF (fld i) (vals i x y)) a H
theorem Elt.same {c : Nat → Addr} {x y : V} {H H' : Hp} {v : V} (e : Elt c x y H v) (s : Same H H') : Elt c x y H' v := by
  obtain ⟨t, a, i, h1, h2, h3, h4⟩ := e
  exact ⟨t, a, i, h1, s _ _ h2, h3, h4.ext s⟩
theorem pen_same {H H' : Hp} {q : Addr} {b : Nat} (p : Pen H q b) (s : Same H H') : Pen H' q b := p.same s
section
variable {P : Program} {w : World} {K : PySem.W.Frag} {mg : Str → Option Value} {base : Heap} {c : Nat → Addr}
variable {f_law_pen f_law_draw f_law_pick f_law_thing f_law_made f_law_named f_law_fields f_law_own f_law_is_based : Addr} {fd_law_pen fd_law_draw fd_law_pick fd_law_thing fd_law_made fd_law_named fd_law_fields fd_law_own fd_law_is_based : FuncData}
theorem ok_law {f : Addr} {fd : FuncData} (F : Fun K "law" "law" s_law f fd) (L : Lay P w K mg base c) (TD : TxtD mg) (TP : TxtP mg) (TO : TxtO mg) (T : TxtL mg)
    (F_law_pen : Fun K "_law_pen" "_law_pen" s_law_pen f_law_pen fd_law_pen) (b_law_pen : Binds K fd_law_pen ["_law_script"] []) (g_law_pen : mg "_law_pen" = some (.ref f_law_pen))
    (F_law_draw : Fun K "_law_draw" "_law_draw" s_law_draw f_law_draw fd_law_draw) (b_law_draw : Binds K fd_law_draw ["_law_pen_here", "_law_many"] []) (g_law_draw : mg "_law_draw" = some (.ref f_law_draw))
    (F_law_pick : Fun K "_law_pick" "_law_pick" s_law_pick f_law_pick fd_law_pick) (b_law_pick : Binds K fd_law_pick ["_law_pen_here", "_law_some"] []) (g_law_pick : mg "_law_pick" = some (.ref f_law_pick))
    (F_law_thing : Fun K "_law_thing" "_law_thing" s_law_thing f_law_thing fd_law_thing) (b_law_thing : Binds K fd_law_thing ["_law_pen_here"] []) (g_law_thing : mg "_law_thing" = some (.ref f_law_thing))
    (F_law_made : Fun K "_law_made" "_law_made" s_law_made f_law_made fd_law_made) (b_law_made : Binds K fd_law_made ["_law_one", "_law_two"] []) (g_law_made : mg "_law_made" = some (.ref f_law_made))
    (F_law_named : Fun K "_law_named" "_law_named" s_law_named f_law_named fd_law_named) (b_law_named : Binds K fd_law_named ["_law_one", "_law_two"] []) (g_law_named : mg "_law_named" = some (.ref f_law_named))
    (F_law_fields : Fun K "_law_fields" "_law_fields" s_law_fields f_law_fields fd_law_fields) (b_law_fields : Binds K fd_law_fields ["_law_k", "_law_caught"] []) (g_law_fields : mg "_law_fields" = some (.ref f_law_fields))
    (F_law_own : Fun K "_law_own" "_law_own" s_law_own f_law_own fd_law_own) (b_law_own : Binds K fd_law_own ["_law_caught"] []) (g_law_own : mg "_law_own" = some (.ref f_law_own))
    (F_law_is_based : Fun K "_law_is_based" "_law_is_based" s_law_is_based f_law_is_based fd_law_is_based) (b_law_is_based : Binds K fd_law_is_based ["_law_k", "_law_caught"] []) (g_law_is_based : mg "_law_is_based" = some (.ref f_law_is_based))
    : FnG P w K mg base CX0 5 f fd ["_law_script"] (spLaw K) := by
  have G_law_pen : FnOk P w K mg base CX0 1 f_law_pen fd_law_pen ["_law_script"] (spPen K) := ok_law_pen F_law_pen TP
  have G_law_thing : FnOk P w K mg base CX0 3 f_law_thing fd_law_thing ["_law_pen_here"] spThing := ok_law_thing F_law_thing TD TP F_law_draw b_law_draw g_law_draw F_law_pick b_law_pick g_law_pick
  have G_law_made : FnOk P w K mg base CX0 3 f_law_made fd_law_made ["_law_one", "_law_two"] (spMade c) := ok_law_made F_law_made L
  have G_law_named : FnOk P w K mg base CX0 3 f_law_named fd_law_named ["_law_one", "_law_two"] (spNamed c) := ok_law_named F_law_named L
  have G_law_fields : FnOk P w K mg base CX0 1 f_law_fields fd_law_fields ["_law_k", "_law_caught"] (spFields c) := ok_law_fields F_law_fields L
  have G_law_own : FnOk P w K mg base CX0 1 f_law_own fd_law_own ["_law_caught"] (spOwn c) := ok_law_own F_law_own L TO
  have G_law_is_based : FnOk P w K mg base CX0 1 f_law_is_based fd_law_is_based ["_law_k", "_law_caught"] (spBased c) := ok_law_is_based F_law_is_based L TO
  refine fnG F sc_law (fun vs H Q E h => ?_) (fun cdv A outer s H vs Q E hg hr h => ?_)
  · obtain ⟨a, ns, rfl, _⟩ := h
    rfl
  · obtain ⟨a, ns, rfl, hS, len, k⟩ := h
    refine ⟨_, (pss_cons (ps_set (i := 1) sc_law.nd rfl (Or.inl rfl) (pe_call G_law_pen (hr.mono (by decide)) (by rfl) g_law_pen F_law_pen.kp b_law_pen .nil pass0 (pa_cons (pv 0) pa_nil)))
      (pss_cons (ps_for PassesOwn.never rfl (pi_range1 rfl T.range (pa_cons pe_int pa_nil)) (pg_name (i := 2) sc_law.nd rfl (Or.inl rfl)) (pss_cons (ps_par (i := 3) (j := 4) (by rfl) sc_law.nd rfl rfl (by decide) rfl rfl (pa_cons (pe_call G_law_thing (hr.mono (by decide)) (by rfl) g_law_thing F_law_thing.kp b_law_thing .nil pass0 (pa_cons (pv 1) pa_nil)) (pa_cons (pe_call G_law_thing (hr.mono (by decide)) (by rfl) g_law_thing F_law_thing.kp b_law_thing .nil pass0 (pa_cons (pv 1) pa_nil)) pa_nil)) (by rfl))
      (pss_one (ps_for PassesOwn.never rfl (pi_list (pe_op op_cat (pe_lsEnum rfl (pa_cons (pe_call G_law_made (hr.mono (by decide)) (by rfl) g_law_made F_law_made.kp b_law_made .nil pass0 (pa_cons (pv 3) (pa_cons (pv 4) pa_nil))) pa_nil) (by rfl) T.list (by decide +kernel) (by rfl) T.enumerate) (pe_call G_law_named (hr.mono (by decide)) (by rfl) g_law_named F_law_named.kp b_law_named .nil pass0 (pa_cons (pv 3) (pa_cons (pv 4) pa_nil))))) (pg_tup rfl (pgs_cons (pg_name (i := 5) sc_law.nd rfl (Or.inl rfl)) (pgs_cons (pg_name (i := 6) sc_law.nd rfl (Or.inl rfl)) pgs_nil))) (pss_cons (ps_set (i := 7) sc_law.nd rfl (Or.inl rfl) (pe_ifExp (pt_cmpR op_in_seq (pv 5) (pe_tup (pa_cons pe_int (pa_cons pe_int pa_nil))) rfl) (pe_lstX (pa_cons (pv 3) (pa_cons (pv 4) pa_nil))) (pe_op op_repX (pe_lstX (pa_cons (pv 3) pa_nil)) (pe_callTy call_intB (by rfl) T.int (by decide +kernel) (pa_cons (pe_cmpR op_gt (pv 5) pe_int (nomark _)) pa_nil)))))
      (pss_cons (ps_if (pt_cmpR op_ne (pe_callB (call_reprX hg (hr.units)) (by rfl) T.repr (by decide +kernel) (pa_cons (pe_call G_law_fields (hr.mono (by decide)) (by rfl) g_law_fields F_law_fields.kp b_law_fields .nil pass0 (pa_cons (pv 5) (pa_cons (pv 6) pa_nil))) pa_nil)) (pe_callB (call_reprX hg (hr.units)) (by rfl) T.repr (by decide +kernel) (pa_cons (pv 7) pa_nil)) (nomark _)) (pss_one (ps_ret pe_bl)) pss_nil)
      (pss_one (ps_if (PW.pt (pw_or (pt_cmpR (op_neD (hr.units)) (pe_call G_law_own (hr.mono (by decide)) (by rfl) g_law_own F_law_own.kp b_law_own .nil pass0 (pa_cons (pv 6) pa_nil)) (pe_lstX (pa_cons (pv 5) pa_nil)) (nomark _)) (pw_or1 (pt_not (pt_val (pe_call G_law_is_based (hr.mono (by decide)) (by rfl) g_law_is_based F_law_is_based.kp b_law_is_based .nil pass0 (pa_cons (pv 5) (pa_cons (pv 6) pa_nil)))))))) (pss_one (ps_ret pe_bl)) pss_nil))))))))
      (pss_cons (ps_par (i := 8) (j := 9) (by rfl) sc_law.nd rfl rfl (by decide) rfl rfl (pa_cons (pe_newB L 17 (by decide) rfl (by rfl)) (pa_cons (pe_newB L 18 (by decide) rfl (by rfl)) pa_nil)) (by rfl))
      (pss_cons (ps_if (PW.pt (pw_or (pt_not (pt_val (pe_callB call_askE (by rfl) T.isinstance (by decide +kernel) (pa_cons (pv 8) (pa_cons (pe_bltn (v := .ty "ValueError") (u := .type "ValueError") (by rfl) T.ValueError (by decide +kernel) rfl) pa_nil))))) (pw_or1 (pt_not (pt_val (pe_callB call_askE (by rfl) T.isinstance (by decide +kernel) (pa_cons (pv 9) (pa_cons (pe_bltn (v := .ty "LookupError") (u := .type "LookupError") (by rfl) T.LookupError (by decide +kernel) rfl) pa_nil)))))))) (pss_one (ps_ret pe_bl)) pss_nil)
      (pss_one (ps_ret (pe_and (pe_cmpR (op_eqD (hr.units)) (pe_call G_law_own (hr.mono (by decide)) (by rfl) g_law_own F_law_own.kp b_law_own .nil pass0 (pa_cons (pv 8) pa_nil)) (pe_lstX pa_nil) (nomark _)) (pe_one (pe_cmpR (op_eqD (hr.units)) (pe_call G_law_own (hr.mono (by decide)) (by rfl) g_law_own F_law_own.kp b_law_own .nil pass0 (pa_cons (pv 9) pa_nil)) (pe_lstX pa_nil) (nomark _)))))))))), ?_⟩
    try dsimp only [cxOf]
    rw [show L2.start N_law [.ref a] = [some (.ref a), none, none, none, none, none, none, none, none, none] from rfl]
    walk_at "hline"
    refine ⟨a, ns, rfl, hS, len, ?_⟩
    intro q H1 nq P1 s1
    walk_at "hx"
    walk_at "hline"
    refine g_rng (by decide) (by decide) ?_
    refine for_range (n := 4) (fun i σ' H' => (∃ y2 y3 y4 y5 y6 y7, σ' = [some (.ref a), some (.ref q), y2, y3, y4, y5, y6, y7, none, none]) ∧ Pen H' q (2 * i)) ⟨⟨none, none, none, none, none, none, rfl⟩, P1⟩ ?_ ?_
    · rintro i σ' H2 hi ⟨⟨y2, y3, y4, y5, y6, y7, rfl⟩, P2⟩
      walk_at "hx"
      walk_at "hline"
      refine g_par ?_
      walk_at "hx"
      refine ⟨q, 2 * i, rfl, P2, by omega, ?_⟩
      intro x H3 d hd fd P3 t3
      walk_at "hx"
      refine ⟨q, 2 * i + 1, rfl, P3, by omega, ?_⟩
      intro y H4 e he fe P4 t4
      have dx : Dx H4 x d := (hd.ext (rm_but t4)).ext (rm_same _ _)
      have dy : Dx H4 y e := he.ext (rm_same _ _)
      walk_at "hx"
      refine ⟨x, y, rfl, ?_⟩
      walk_at "hx"
      refine ⟨x, y, rfl, ?_⟩
      intro p5 as H5 s5 l5 n5 w5
      walk_at "hx"
      refine ⟨p5, _, rfl, SqL.of l5, ?_⟩
      intro p6 ts H6 s6 l6 n6 w6
      walk_at "hx"
      refine ⟨x, y, rfl, ?_⟩
      intro p7 us H7 s7 l7 n7 w7
      walk_at "hx"
      have sz : (ts.map V.ref ++ us.map V.ref).length ≤ sizeLine := by
        rw [List.length_append, List.length_map, List.length_map, n6, n7, List.length_map, n5]
        decide
      refine g_catW (s7 _ _ l6) l7 rfl sz ?_
      intro p8 m8
      have s8 := same_new (o := .lst (ts.map V.ref ++ us.map V.ref)) m8
      have l8 : upd H7 p8 (.lst (ts.map V.ref ++ us.map V.ref)) p8 = some (.lst (ts.map V.ref ++ us.map V.ref)) := upd_same
      generalize upd H7 p8 (.lst (ts.map V.ref ++ us.map V.ref)) = G at s8 l8 ⊢
      have all : ∀ v ∈ ts.map V.ref ++ us.map V.ref, Elt c x y G v := by
        intro v hv
        rcases List.mem_append.mp hv with hv | hv
        · obtain ⟨t, ht, rfl⟩ := List.mem_map.mp hv
          obtain ⟨j, hj⟩ := List.mem_iff_getElem?.mp ht
          have jl : j < 17 := by
            rcases Nat.lt_or_ge j ts.length with z | z
            · rw [n6, List.length_map, n5] at z
              exact z
            · rw [List.getElem?_eq_none z] at hj
              cases hj
          obtain ⟨a', ha, he'⟩ := w5 j jl
          have w := w6 j t hj
          rw [List.getD_eq_getElem?_getD, List.getElem?_map, ha] at w
          exact ⟨t, a', j, rfl, s8 _ _ (s7 _ _ w), jl, ((he'.ext s6).ext s7).ext s8⟩
        · obtain ⟨t, ht, rfl⟩ := List.mem_map.mp hv
          obtain ⟨j, hj⟩ := List.mem_iff_getElem?.mp ht
          have jl : j < 16 := by
            rcases Nat.lt_or_ge j us.length with z | z
            · rw [n7] at z
              exact z
            · rw [List.getElem?_eq_none z] at hj
              cases hj
          obtain ⟨t', a', ha, hb, he'⟩ := w7 j jl
          rw [hj] at ha
          cases ha
          exact ⟨t, a', j + 1, rfl, s8 _ _ hb, by omega, he'.ext s8⟩
      walk_at "hx"
      refine g_atL (SqL.of l8) ?_
      refine for_list (fun j σ' H' => (∃ y5 y6 y7, σ' = [some (.ref a), some (.ref q), some (.int (0 + (i : Int))), some x, some y, y5, y6, y7, none, none]) ∧ Same G H') ⟨⟨_, _, _, rfl⟩, fun _ _ h => h⟩ (fun j σ' H' _ h => SqL.of (h.2 _ _ l8)) ?_ ?_
      · rintro j v σ' H9 hv ⟨⟨y5, y6, y7, rfl⟩, s9⟩
        obtain ⟨t, z, n, rfl, ht, hn, hz⟩ := (all v (List.mem_of_getElem? hv)).same s9
        refine ⟨t, _, rfl, SqT.of ht, rfl, ?_⟩
        refine ⟨_, _, rfl, ?_⟩
        walk_at "hx"
        refine ⟨_, _, rfl, ?_⟩
        walk_at "hx"
        refine ⟨rfl, ?_⟩
        have s49 : Same H4 H9 := same_trans (same_trans (same_trans (same_trans s5 s6) s7) s8) s9
        refine g_cut (fun σ' H' => ∃ p, σ' = [some (.ref a), some (.ref q), some (.int (0 + (i : Int))), some x, some y, some (.int (n : Int)), some (.ref z), some (.ref p), none, none] ∧ Same H9 H' ∧ p ≠ sysModules ∧ H' p = some (.lst (vals n x y))) ?_ ?_
        · rintro σ' HA ⟨p, rfl, sA, zp, lp⟩
          walk_at "hgo"
          refine ⟨n, z, vals n x y, rfl, hn, hz.ext sA, vals_len n hn x y, ?_⟩
          intro pB HB sB zB lB
          walk_at "hx"
          obtain ⟨f1, f2, f3⟩ := fit_vals n fd fe
          have up : Same H4 HB := same_trans (same_trans s49 sA) sB
          refine g_reprX (.lst lB zB (dx_vals n (dx.ext up) (dy.ext up))) f1 f2 f3 ?_
          walk_at "hx"
          refine g_reprX (.lst (sB _ _ lp) zp (dx_vals n (dx.ext up) (dy.ext up))) f1 f2 f3 ?_
          walk_at "hx"
          try refine g_false (by simp) ?_
          walk_at "hgo"
          refine ⟨z, n, _, rfl, by omega, (hz.ext sA).ext sB, ?_⟩
          intro pC HC sC lC
          have one : (ownL n).map (fun (j : Nat) => V.int (j : Int)) = [(n : Int)].map V.int := by
            unfold ownL
            rw [if_pos hn]
            rfl
          rw [one] at lC
          walk_at "hx"
          intro pD nD zD
          walk_at "hx"
          refine g_neD (.lst (SqL.of (look_past (ne_of_none lC nD) lC)) (dp_ints [(n : Int)])) (.lst (SqL.of upd_same) (dp_ints [(n : Int)])) (shapedInts _) (shapedInts _) ?_
          have sD := same_new (o := .lst [V.int (n : Int)]) nD
          generalize upd HC pD (.lst [V.int (n : Int)]) = HD at sD ⊢
          rw [show PyData.eqv (.list ([(n : Int)].map PyData.int)) (.list ([(n : Int)].map PyData.int)) = true from by simp [PyData.eqv, PyData.eqvAll]]
          walk_at "hx"
          refine ⟨n, z, _, rfl, hn, (((hz.ext sA).ext sB).ext sC).ext sD, ?_⟩
          intro HE sE
          walk_at "hgo"
          exact ⟨⟨_, _, _, rfl⟩, same_trans (same_trans (same_trans (same_trans (same_trans s9 sA) sB) sC) sD) sE⟩
        · intro R hR
          walk_at "hx"
          intro pt nt
          have st := same_new (o := .tup [V.int 3, V.int 11]) nt
          walk_at "hx"
          refine g_inT upd_same rfl rfl ?_
          generalize upd _ pt _ = HT at st ⊢
          rw [inV_two n hn]
          walk_at "hx"
          by_cases h3 : n = 3 ∨ n = 11
          · refine g_true (by simp [h3]) ?_
            walk_at "hx"
            intro pp np zp
            walk_at "hx"
            refine hR _ _ ⟨pp, rfl, same_trans st (same_new np), zp, ?_⟩
            have h0 : n ≠ 0 := by omega
            unfold vals
            rw [if_neg h0, if_pos h3]
            exact upd_same
          · refine g_false (by simp [h3]) ?_
            walk_at "hx"
            intro pp np zp
            walk_at "hx"
            refine g_repX upd_same (by split <;> omega) (by split <;> omega) ?_
            intro pr nr zr
            walk_at "hx"
            refine hR _ _ ⟨pr, rfl, same_trans (same_trans st (same_new np)) (same_new nr), zr, ?_⟩
            rw [upd_same]
            unfold vals
            by_cases h0 : n = 0
            · subst h0
              rfl
            · have pos : (0 : Int) < (n : Int) := by omega
              rw [if_neg h0, if_neg h3]
              have pn : 0 < n := by omega
              simp [pos, pn]
      · rintro σ' H9 ⟨⟨y5, y6, y7, rfl⟩, s9⟩
        walk_at "hx"
        have P9 := (pen_same P4 (same_trans (same_trans (same_trans (same_trans s5 s6) s7) s8) s9)).more (b' := 2 * (i + 1)) (by omega)
        exact ⟨⟨_, _, _, _, _, _, rfl⟩, P9⟩
    · rintro σ' H2 ⟨⟨y2, y3, y4, y5, y6, y7, rfl⟩, P2⟩
      walk_at "hx"
      refine g_seq ?_
      refine g_par ?_
      walk_at "hx"
      refine ⟨by decide +kernel, ?_⟩
      intro a1 HA nA sA xA
      walk_at "hx"
      refine ⟨by decide +kernel, ?_⟩
      intro a2 HB nB sB xB
      walk_at "hx"
      refine ⟨_, _, rfl, ?_⟩
      walk_at "hgo"
      refine g_askT L (by decide) (by decide +kernel) (xA.ext sB) ?_
      rw [show (over c 17).contains (.type "ValueError") = true from by simp [over, tVE, tLE, tOE, tIE]]
      walk_at "hx"
      refine g_askT L (by decide) (by decide +kernel) xB ?_
      rw [show (over c 18).contains (.type "LookupError") = true from by simp [over, tVE, tLE, tOE, tIE]]
      walk_at "hgo"
      refine ⟨a1, 17, _, rfl, by decide, xA.ext sB, ?_⟩
      intro pC HC sC lC
      walk_at "hx"
      intro pD nD zD
      walk_at "hx"
      refine g_eqD (.lst (SqL.of (look_past (ne_of_none lC nD) lC)) .nil) (.lst (SqL.of upd_same) .nil) (by decide +kernel) (by decide +kernel) ?_
      have sD := same_new (o := .lst []) nD
      generalize upd HC pD (.lst []) = HD at sD ⊢
      rw [show PyData.eqv (.list []) (.list []) = true from by simp [PyData.eqv, PyData.eqvAll]]
      walk_at "hx"
      refine ⟨a2, 18, _, rfl, by decide, (xB.ext sC).ext sD, ?_⟩
      intro pE HE sE lE
      walk_at "hx"
      intro pF nF zF
      walk_at "hx"
      refine g_eqD (.lst (SqL.of (look_past (ne_of_none lE nF) lE)) .nil) (.lst (SqL.of upd_same) .nil) (by decide +kernel) (by decide +kernel) ?_
      rw [show PyData.eqv (.list []) (.list []) = true from by simp [PyData.eqv, PyData.eqvAll]]
      walk_at "hgo"
      exact k _
end

/-- what the written part says of a class of errors -/
structure ClF (K : PySem.W.Frag) (C : Addr) (tl : List Value) : Prop where
  hd : PySem.W.hasDictIn K C = true
  ga : PySem.W.findIn K (.ref C) "__getattribute__" = some (some (.builtin "BaseException.__getattribute__"))
  gg : PySem.W.findIn K (.ref C) "__getattr__" = some none
  exC : PySem.W.subIn K (.ref C) (.type "BaseException") = some true
  ca : PySem.W.findIn K (.ref C) "__class__" = some (some (.builtin "object.__class__"))
  cm : PySem.W.mroIn K C (.type "object") = some true
  keep : PySem.W.keepIn K (.ref C) = true
  ty : PySem.W.typeIn K (.ref C) = some (.type "type")
  cls : (PySem.W.clsIn K C).map (fun cd => cd.mro) = some (.ref C :: tl)
structure InF (K : PySem.W.Frag) (C : Addr) (newId : String) (bmB : List Value) : Prop where
  made : PySem.W.excInitIn K C bmB newId = true
  over : PySem.W.excOver K C bmB = true
  sa : PySem.W.findIn K (.ref C) "__setattr__" = some (some (.builtin "object.__setattr__"))
theorem kbR {K : PySem.W.Frag} {x qual : Str} {st : Stmt} {f : Addr} {fd : FuncData} {ns : List Str} (F : Fun K x qual st f fd)
    (h : ∀ (kV doc pm : Value) (an : Option Addr) (cdv ct : Value) (us ws : List Value), us.length = 1 → ws.length = ns.length → bindArgs (PySem.W.fnOf x qual (defArgs st) (defBody st) (defScope st) .none kV doc pm an cdv ct) ⟨us, ns.reverse.zip ws⟩ = pure ((("self" : Str) :: ns).zip (us ++ ws.reverse))) :
    KBinds K fd (("self" : Str) :: ns) ns.reverse (gK ns.length) (gK ns.length) := by
  obtain ⟨oc, od, kV, doc, pm, an, cdv, ct, osl, rfl, lk, hcd⟩ := F.ex
  refine ⟨fun s us ws _ hl => ?_, fun {vs us zs ws} r q => ?_⟩
  · unfold gK at hl ⊢
    by_cases e : us.length = 1 ∧ ws.length = ns.length
    · rw [if_pos e]
      exact .of_eq (h kV doc pm an cdv ct us ws e.1 e.2)
    · rw [if_neg e] at hl
      cases hl
  · unfold gK
    have e1 := r.length
    have e2 := q.length
    by_cases e : us.length = 1 ∧ ws.length = ns.length
    · rw [if_pos e, if_pos ⟨by rw [e1]; exact e.1, by rw [e2]; exact e.2⟩]
      exact r.append q.reverse
    · rw [if_neg e, if_neg (by rw [e1, e2]; exact e)]
      exact .nil
theorem kbP {K : PySem.W.Frag} {x qual : Str} {st : Stmt} {f : Addr} {fd : FuncData} {ps : List Str} (F : Fun K x qual st f fd)
    (h : ∀ (kV doc pm : Value) (an : Option Addr) (cdv ct : Value) (us : List Value), us.length = ps.length → bindArgs (PySem.W.fnOf x qual (defArgs st) (defBody st) (defScope st) .none kV doc pm an cdv ct) ⟨us, []⟩ = pure (ps.zip us)) :
    KBinds K fd ps [] (fun us _ => us) (fun vs _ => vs) := by
  obtain ⟨oc, od, kV, doc, pm, an, cdv, ct, osl, rfl, lk, hcd⟩ := F.ex
  refine ⟨fun s us ws _ hl => ?_, fun r _ => r⟩
  have e : ([] : List Str).zip ws = [] := rfl
  rw [e]
  exact .of_eq (h kV doc pm an cdv ct us hl)
theorem all_mk {P : Program} {w : World} {K : PySem.W.Frag} {h : Heap} {mg : Str → Option Value} {fa : Addr} (X : K.In h) (G : h.Ns mainGlobals mg) (hfa : mg "law" = some (.ref fa))
    {C0 C1 C2 C3 C4 C5 C6 C7 C8 C9 C10 C11 C12 C13 C14 C15 C16 C17 C18 i1 i2 i3 i4 i5 i6 i7 i8 i9 i10 i11 i12 i13 i14 i15 i16 : Addr} {f0 : Addr} {oc0 kV0 doc0 pm0 cd0 ct0 : Value} {od0 an0 : Option Addr} {sl0 : Array (Option Value)} {f1 : Addr} {oc1 kV1 doc1 pm1 cd1 ct1 : Value} {od1 an1 : Option Addr} {sl1 : Array (Option Value)} {f2 : Addr} {oc2 kV2 doc2 pm2 cd2 ct2 : Value} {od2 an2 : Option Addr} {sl2 : Array (Option Value)} {f3 : Addr} {oc3 kV3 doc3 pm3 cd3 ct3 : Value} {od3 an3 : Option Addr} {sl3 : Array (Option Value)} {f4 : Addr} {oc4 kV4 doc4 pm4 cd4 ct4 : Value} {od4 an4 : Option Addr} {sl4 : Array (Option Value)} {f5 : Addr} {oc5 kV5 doc5 pm5 cd5 ct5 : Value} {od5 an5 : Option Addr} {sl5 : Array (Option Value)} {f6 : Addr} {oc6 kV6 doc6 pm6 cd6 ct6 : Value} {od6 an6 : Option Addr} {sl6 : Array (Option Value)} {f7 : Addr} {oc7 kV7 doc7 pm7 cd7 ct7 : Value} {od7 an7 : Option Addr} {sl7 : Array (Option Value)} {f8 : Addr} {oc8 kV8 doc8 pm8 cd8 ct8 : Value} {od8 an8 : Option Addr} {sl8 : Array (Option Value)} {oc9 kV9 doc9 pm9 cd9 ct9 : Value} {od9 an9 : Option Addr} {sl9 : Array (Option Value)} {f9 : Addr} {ocI1 kVI1 docI1 pmI1 cdI1 ctI1 : Value} {odI1 anI1 : Option Addr} {slI1 : Array (Option Value)} {ocI2 kVI2 docI2 pmI2 cdI2 ctI2 : Value} {odI2 anI2 : Option Addr} {slI2 : Array (Option Value)} {ocI3 kVI3 docI3 pmI3 cdI3 ctI3 : Value} {odI3 anI3 : Option Addr} {slI3 : Array (Option Value)} {ocI4 kVI4 docI4 pmI4 cdI4 ctI4 : Value} {odI4 anI4 : Option Addr} {slI4 : Array (Option Value)} {ocI5 kVI5 docI5 pmI5 cdI5 ctI5 : Value} {odI5 anI5 : Option Addr} {slI5 : Array (Option Value)} {ocI6 kVI6 docI6 pmI6 cdI6 ctI6 : Value} {odI6 anI6 : Option Addr} {slI6 : Array (Option Value)} {ocI7 kVI7 docI7 pmI7 cdI7 ctI7 : Value} {odI7 anI7 : Option Addr} {slI7 : Array (Option Value)} {ocI8 kVI8 docI8 pmI8 cdI8 ctI8 : Value} {odI8 anI8 : Option Addr} {slI8 : Array (Option Value)} {ocI9 kVI9 docI9 pmI9 cdI9 ctI9 : Value} {odI9 anI9 : Option Addr} {slI9 : Array (Option Value)} {ocI10 kVI10 docI10 pmI10 cdI10 ctI10 : Value} {odI10 anI10 : Option Addr} {slI10 : Array (Option Value)} {ocI11 kVI11 docI11 pmI11 cdI11 ctI11 : Value} {odI11 anI11 : Option Addr} {slI11 : Array (Option Value)} {ocI12 kVI12 docI12 pmI12 cdI12 ctI12 : Value} {odI12 anI12 : Option Addr} {slI12 : Array (Option Value)} {ocI13 kVI13 docI13 pmI13 cdI13 ctI13 : Value} {odI13 anI13 : Option Addr} {slI13 : Array (Option Value)} {ocI14 kVI14 docI14 pmI14 cdI14 ctI14 : Value} {odI14 anI14 : Option Addr} {slI14 : Array (Option Value)} {ocI15 kVI15 docI15 pmI15 cdI15 ctI15 : Value} {odI15 anI15 : Option Addr} {slI15 : Array (Option Value)} {ocI16 kVI16 docI16 pmI16 cdI16 ctI16 : Value} {odI16 anI16 : Option Addr} {slI16 : Array (Option Value)}
    (a0 : PySem.W.nsIn K mainGlobals "_law_pen" = some (some (.ref f0)))
    (l0 : K.lookup f0 = some ⟨oc0, od0, .func (PySem.W.fnOf "_law_pen" "_law_pen" (defArgs s_law_pen) (defBody s_law_pen) (defScope s_law_pen) .none kV0 doc0 pm0 an0 cd0 ct0), sl0⟩)
    (c0 : PySem.W.codeIn K cd0 "_law_pen" = true) (k0 : PySem.W.keepIn K (.ref f0) = true)
    (a1 : PySem.W.nsIn K mainGlobals "_law_draw" = some (some (.ref f1)))
    (l1 : K.lookup f1 = some ⟨oc1, od1, .func (PySem.W.fnOf "_law_draw" "_law_draw" (defArgs s_law_draw) (defBody s_law_draw) (defScope s_law_draw) .none kV1 doc1 pm1 an1 cd1 ct1), sl1⟩)
    (c1 : PySem.W.codeIn K cd1 "_law_draw" = true) (k1 : PySem.W.keepIn K (.ref f1) = true)
    (a2 : PySem.W.nsIn K mainGlobals "_law_pick" = some (some (.ref f2)))
    (l2 : K.lookup f2 = some ⟨oc2, od2, .func (PySem.W.fnOf "_law_pick" "_law_pick" (defArgs s_law_pick) (defBody s_law_pick) (defScope s_law_pick) .none kV2 doc2 pm2 an2 cd2 ct2), sl2⟩)
    (c2 : PySem.W.codeIn K cd2 "_law_pick" = true) (k2 : PySem.W.keepIn K (.ref f2) = true)
    (a3 : PySem.W.nsIn K mainGlobals "_law_thing" = some (some (.ref f3)))
    (l3 : K.lookup f3 = some ⟨oc3, od3, .func (PySem.W.fnOf "_law_thing" "_law_thing" (defArgs s_law_thing) (defBody s_law_thing) (defScope s_law_thing) .none kV3 doc3 pm3 an3 cd3 ct3), sl3⟩)
    (c3 : PySem.W.codeIn K cd3 "_law_thing" = true) (k3 : PySem.W.keepIn K (.ref f3) = true)
    (a4 : PySem.W.nsIn K mainGlobals "_law_made" = some (some (.ref f4)))
    (l4 : K.lookup f4 = some ⟨oc4, od4, .func (PySem.W.fnOf "_law_made" "_law_made" (defArgs s_law_made) (defBody s_law_made) (defScope s_law_made) .none kV4 doc4 pm4 an4 cd4 ct4), sl4⟩)
    (c4 : PySem.W.codeIn K cd4 "_law_made" = true) (k4 : PySem.W.keepIn K (.ref f4) = true)
    (a5 : PySem.W.nsIn K mainGlobals "_law_named" = some (some (.ref f5)))
    (l5 : K.lookup f5 = some ⟨oc5, od5, .func (PySem.W.fnOf "_law_named" "_law_named" (defArgs s_law_named) (defBody s_law_named) (defScope s_law_named) .none kV5 doc5 pm5 an5 cd5 ct5), sl5⟩)
    (c5 : PySem.W.codeIn K cd5 "_law_named" = true) (k5 : PySem.W.keepIn K (.ref f5) = true)
    (a6 : PySem.W.nsIn K mainGlobals "_law_fields" = some (some (.ref f6)))
    (l6 : K.lookup f6 = some ⟨oc6, od6, .func (PySem.W.fnOf "_law_fields" "_law_fields" (defArgs s_law_fields) (defBody s_law_fields) (defScope s_law_fields) .none kV6 doc6 pm6 an6 cd6 ct6), sl6⟩)
    (c6 : PySem.W.codeIn K cd6 "_law_fields" = true) (k6 : PySem.W.keepIn K (.ref f6) = true)
    (a7 : PySem.W.nsIn K mainGlobals "_law_own" = some (some (.ref f7)))
    (l7 : K.lookup f7 = some ⟨oc7, od7, .func (PySem.W.fnOf "_law_own" "_law_own" (defArgs s_law_own) (defBody s_law_own) (defScope s_law_own) .none kV7 doc7 pm7 an7 cd7 ct7), sl7⟩)
    (c7 : PySem.W.codeIn K cd7 "_law_own" = true) (k7 : PySem.W.keepIn K (.ref f7) = true)
    (a8 : PySem.W.nsIn K mainGlobals "_law_is_based" = some (some (.ref f8)))
    (l8 : K.lookup f8 = some ⟨oc8, od8, .func (PySem.W.fnOf "_law_is_based" "_law_is_based" (defArgs s_law_is_based) (defBody s_law_is_based) (defScope s_law_is_based) .none kV8 doc8 pm8 an8 cd8 ct8), sl8⟩)
    (c8 : PySem.W.codeIn K cd8 "_law_is_based" = true) (k8 : PySem.W.keepIn K (.ref f8) = true)
    (a9 : PySem.W.nsIn K mainGlobals "law" = some (some (.ref f9)))
    (l9 : K.lookup f9 = some ⟨oc9, od9, .func (PySem.W.fnOf "law" "law" (defArgs s_law) (defBody s_law) (defScope s_law) .none kV9 doc9 pm9 an9 cd9 ct9), sl9⟩)
    (c9 : PySem.W.codeIn K cd9 "law" = true) (k9 : PySem.W.keepIn K (.ref f9) = true)
    (ac0 : PySem.W.nsIn K mainGlobals "InvalidVector" = some (some (.ref C0)))
    (ac1 : PySem.W.nsIn K mainGlobals "InvalidBook" = some (some (.ref C1)))
    (ac2 : PySem.W.nsIn K mainGlobals "InvalidPart" = some (some (.ref C2)))
    (ac3 : PySem.W.nsIn K mainGlobals "InvalidNet" = some (some (.ref C3)))
    (ac4 : PySem.W.nsIn K mainGlobals "InvalidCourse" = some (some (.ref C4)))
    (ac5 : PySem.W.nsIn K mainGlobals "InvalidWeighting" = some (some (.ref C5)))
    (ac6 : PySem.W.nsIn K mainGlobals "InvalidDeed" = some (some (.ref C6)))
    (ac7 : PySem.W.nsIn K mainGlobals "InvalidItem" = some (some (.ref C7)))
    (ac8 : PySem.W.nsIn K mainGlobals "InvalidCosts" = some (some (.ref C8)))
    (ac9 : PySem.W.nsIn K mainGlobals "InvalidCount" = some (some (.ref C9)))
    (ac10 : PySem.W.nsIn K mainGlobals "NotComparable" = some (some (.ref C10)))
    (ac11 : PySem.W.nsIn K mainGlobals "InvalidText" = some (some (.ref C11)))
    (ac12 : PySem.W.nsIn K mainGlobals "UnknownCommand" = some (some (.ref C12)))
    (ac13 : PySem.W.nsIn K mainGlobals "UnknownName" = some (some (.ref C13)))
    (ac14 : PySem.W.nsIn K mainGlobals "NoItem" = some (some (.ref C14)))
    (ac15 : PySem.W.nsIn K mainGlobals "TooMany" = some (some (.ref C15)))
    (ac16 : PySem.W.nsIn K mainGlobals "NothingToUndo" = some (some (.ref C16)))
    (ac17 : PySem.W.nsIn K mainGlobals "NetError" = some (some (.ref C17)))
    (ac18 : PySem.W.nsIn K mainGlobals "MissingError" = some (some (.ref C18)))
    (cf0 : ClF K C0 (.ref C17 :: [.type "ValueError", .type "Exception", .type "BaseException", .type "object"]))
    (xn0 : PySem.W.excIn K C0 [.type "ValueError", .type "Exception", .type "BaseException", .type "object"] "ValueError.__new__" = true)
    (cf1 : ClF K C1 (.ref C17 :: [.type "ValueError", .type "Exception", .type "BaseException", .type "object"]))
    (in1 : InF K C1 "ValueError.__new__" [.type "ValueError", .type "Exception", .type "BaseException", .type "object"])
    (ii1 : PySem.W.findIn K (.ref C1) "__init__" = some (some (.ref i1))) (ti1 : PySem.W.typeIn K (.ref i1) = some (.type "function"))
    (no1_0 : PySem.W.findIn K (.ref C1) "reason" = some none) (tk1_0 : PySem.W.takerIn K C1 "reason" = some none)
    (lI1 : K.lookup i1 = some ⟨ocI1, odI1, .func (PySem.W.fnOf "__init__" "InvalidBook.__init__" (defArgs s_InvalidBook___init__) (defBody s_InvalidBook___init__) (defScope s_InvalidBook___init__) .none kVI1 docI1 pmI1 anI1 cdI1 ctI1), slI1⟩)
    (cI1 : PySem.W.codeIn K cdI1 "InvalidBook.__init__" = true) (kI1 : PySem.W.keepIn K (.ref i1) = true)
    (cf2 : ClF K C2 (.ref C17 :: [.type "ValueError", .type "Exception", .type "BaseException", .type "object"]))
    (in2 : InF K C2 "ValueError.__new__" [.type "ValueError", .type "Exception", .type "BaseException", .type "object"])
    (ii2 : PySem.W.findIn K (.ref C2) "__init__" = some (some (.ref i2))) (ti2 : PySem.W.typeIn K (.ref i2) = some (.type "function"))
    (no2_0 : PySem.W.findIn K (.ref C2) "reason" = some none) (tk2_0 : PySem.W.takerIn K C2 "reason" = some none)
    (lI2 : K.lookup i2 = some ⟨ocI2, odI2, .func (PySem.W.fnOf "__init__" "InvalidPart.__init__" (defArgs s_InvalidPart___init__) (defBody s_InvalidPart___init__) (defScope s_InvalidPart___init__) .none kVI2 docI2 pmI2 anI2 cdI2 ctI2), slI2⟩)
    (cI2 : PySem.W.codeIn K cdI2 "InvalidPart.__init__" = true) (kI2 : PySem.W.keepIn K (.ref i2) = true)
    (cf3 : ClF K C3 (.ref C17 :: [.type "ValueError", .type "Exception", .type "BaseException", .type "object"]))
    (in3 : InF K C3 "ValueError.__new__" [.type "ValueError", .type "Exception", .type "BaseException", .type "object"])
    (ii3 : PySem.W.findIn K (.ref C3) "__init__" = some (some (.ref i3))) (ti3 : PySem.W.typeIn K (.ref i3) = some (.type "function"))
    (no3_0 : PySem.W.findIn K (.ref C3) "reason" = some none) (tk3_0 : PySem.W.takerIn K C3 "reason" = some none)
    (no3_1 : PySem.W.findIn K (.ref C3) "name" = some none) (tk3_1 : PySem.W.takerIn K C3 "name" = some none)
    (lI3 : K.lookup i3 = some ⟨ocI3, odI3, .func (PySem.W.fnOf "__init__" "InvalidNet.__init__" (defArgs s_InvalidNet___init__) (defBody s_InvalidNet___init__) (defScope s_InvalidNet___init__) .none kVI3 docI3 pmI3 anI3 cdI3 ctI3), slI3⟩)
    (cI3 : PySem.W.codeIn K cdI3 "InvalidNet.__init__" = true) (kI3 : PySem.W.keepIn K (.ref i3) = true)
    (cf4 : ClF K C4 (.ref C17 :: [.type "ValueError", .type "Exception", .type "BaseException", .type "object"]))
    (in4 : InF K C4 "ValueError.__new__" [.type "ValueError", .type "Exception", .type "BaseException", .type "object"])
    (ii4 : PySem.W.findIn K (.ref C4) "__init__" = some (some (.ref i4))) (ti4 : PySem.W.typeIn K (.ref i4) = some (.type "function"))
    (no4_0 : PySem.W.findIn K (.ref C4) "reason" = some none) (tk4_0 : PySem.W.takerIn K C4 "reason" = some none)
    (lI4 : K.lookup i4 = some ⟨ocI4, odI4, .func (PySem.W.fnOf "__init__" "InvalidCourse.__init__" (defArgs s_InvalidCourse___init__) (defBody s_InvalidCourse___init__) (defScope s_InvalidCourse___init__) .none kVI4 docI4 pmI4 anI4 cdI4 ctI4), slI4⟩)
    (cI4 : PySem.W.codeIn K cdI4 "InvalidCourse.__init__" = true) (kI4 : PySem.W.keepIn K (.ref i4) = true)
    (cf5 : ClF K C5 (.ref C17 :: [.type "ValueError", .type "Exception", .type "BaseException", .type "object"]))
    (in5 : InF K C5 "ValueError.__new__" [.type "ValueError", .type "Exception", .type "BaseException", .type "object"])
    (ii5 : PySem.W.findIn K (.ref C5) "__init__" = some (some (.ref i5))) (ti5 : PySem.W.typeIn K (.ref i5) = some (.type "function"))
    (no5_0 : PySem.W.findIn K (.ref C5) "reason" = some none) (tk5_0 : PySem.W.takerIn K C5 "reason" = some none)
    (lI5 : K.lookup i5 = some ⟨ocI5, odI5, .func (PySem.W.fnOf "__init__" "InvalidWeighting.__init__" (defArgs s_InvalidWeighting___init__) (defBody s_InvalidWeighting___init__) (defScope s_InvalidWeighting___init__) .none kVI5 docI5 pmI5 anI5 cdI5 ctI5), slI5⟩)
    (cI5 : PySem.W.codeIn K cdI5 "InvalidWeighting.__init__" = true) (kI5 : PySem.W.keepIn K (.ref i5) = true)
    (cf6 : ClF K C6 (.ref C17 :: [.type "ValueError", .type "Exception", .type "BaseException", .type "object"]))
    (in6 : InF K C6 "ValueError.__new__" [.type "ValueError", .type "Exception", .type "BaseException", .type "object"])
    (ii6 : PySem.W.findIn K (.ref C6) "__init__" = some (some (.ref i6))) (ti6 : PySem.W.typeIn K (.ref i6) = some (.type "function"))
    (no6_0 : PySem.W.findIn K (.ref C6) "reason" = some none) (tk6_0 : PySem.W.takerIn K C6 "reason" = some none)
    (lI6 : K.lookup i6 = some ⟨ocI6, odI6, .func (PySem.W.fnOf "__init__" "InvalidDeed.__init__" (defArgs s_InvalidDeed___init__) (defBody s_InvalidDeed___init__) (defScope s_InvalidDeed___init__) .none kVI6 docI6 pmI6 anI6 cdI6 ctI6), slI6⟩)
    (cI6 : PySem.W.codeIn K cdI6 "InvalidDeed.__init__" = true) (kI6 : PySem.W.keepIn K (.ref i6) = true)
    (cf7 : ClF K C7 (.ref C17 :: [.type "ValueError", .type "Exception", .type "BaseException", .type "object"]))
    (in7 : InF K C7 "ValueError.__new__" [.type "ValueError", .type "Exception", .type "BaseException", .type "object"])
    (ii7 : PySem.W.findIn K (.ref C7) "__init__" = some (some (.ref i7))) (ti7 : PySem.W.typeIn K (.ref i7) = some (.type "function"))
    (no7_0 : PySem.W.findIn K (.ref C7) "index" = some none) (tk7_0 : PySem.W.takerIn K C7 "index" = some none)
    (lI7 : K.lookup i7 = some ⟨ocI7, odI7, .func (PySem.W.fnOf "__init__" "InvalidItem.__init__" (defArgs s_InvalidItem___init__) (defBody s_InvalidItem___init__) (defScope s_InvalidItem___init__) .none kVI7 docI7 pmI7 anI7 cdI7 ctI7), slI7⟩)
    (cI7 : PySem.W.codeIn K cdI7 "InvalidItem.__init__" = true) (kI7 : PySem.W.keepIn K (.ref i7) = true)
    (cf8 : ClF K C8 (.ref C17 :: [.type "ValueError", .type "Exception", .type "BaseException", .type "object"]))
    (in8 : InF K C8 "ValueError.__new__" [.type "ValueError", .type "Exception", .type "BaseException", .type "object"])
    (ii8 : PySem.W.findIn K (.ref C8) "__init__" = some (some (.ref i8))) (ti8 : PySem.W.typeIn K (.ref i8) = some (.type "function"))
    (no8_0 : PySem.W.findIn K (.ref C8) "name" = some none) (tk8_0 : PySem.W.takerIn K C8 "name" = some none)
    (lI8 : K.lookup i8 = some ⟨ocI8, odI8, .func (PySem.W.fnOf "__init__" "InvalidCosts.__init__" (defArgs s_InvalidCosts___init__) (defBody s_InvalidCosts___init__) (defScope s_InvalidCosts___init__) .none kVI8 docI8 pmI8 anI8 cdI8 ctI8), slI8⟩)
    (cI8 : PySem.W.codeIn K cdI8 "InvalidCosts.__init__" = true) (kI8 : PySem.W.keepIn K (.ref i8) = true)
    (cf9 : ClF K C9 (.ref C17 :: [.type "ValueError", .type "Exception", .type "BaseException", .type "object"]))
    (in9 : InF K C9 "ValueError.__new__" [.type "ValueError", .type "Exception", .type "BaseException", .type "object"])
    (ii9 : PySem.W.findIn K (.ref C9) "__init__" = some (some (.ref i9))) (ti9 : PySem.W.typeIn K (.ref i9) = some (.type "function"))
    (no9_0 : PySem.W.findIn K (.ref C9) "name" = some none) (tk9_0 : PySem.W.takerIn K C9 "name" = some none)
    (lI9 : K.lookup i9 = some ⟨ocI9, odI9, .func (PySem.W.fnOf "__init__" "InvalidCount.__init__" (defArgs s_InvalidCount___init__) (defBody s_InvalidCount___init__) (defScope s_InvalidCount___init__) .none kVI9 docI9 pmI9 anI9 cdI9 ctI9), slI9⟩)
    (cI9 : PySem.W.codeIn K cdI9 "InvalidCount.__init__" = true) (kI9 : PySem.W.keepIn K (.ref i9) = true)
    (cf10 : ClF K C10 (.ref C17 :: [.type "ValueError", .type "Exception", .type "BaseException", .type "object"]))
    (in10 : InF K C10 "ValueError.__new__" [.type "ValueError", .type "Exception", .type "BaseException", .type "object"])
    (ii10 : PySem.W.findIn K (.ref C10) "__init__" = some (some (.ref i10))) (ti10 : PySem.W.typeIn K (.ref i10) = some (.type "function"))
    (no10_0 : PySem.W.findIn K (.ref C10) "reason" = some none) (tk10_0 : PySem.W.takerIn K C10 "reason" = some none)
    (lI10 : K.lookup i10 = some ⟨ocI10, odI10, .func (PySem.W.fnOf "__init__" "NotComparable.__init__" (defArgs s_NotComparable___init__) (defBody s_NotComparable___init__) (defScope s_NotComparable___init__) .none kVI10 docI10 pmI10 anI10 cdI10 ctI10), slI10⟩)
    (cI10 : PySem.W.codeIn K cdI10 "NotComparable.__init__" = true) (kI10 : PySem.W.keepIn K (.ref i10) = true)
    (cf11 : ClF K C11 (.ref C17 :: [.type "ValueError", .type "Exception", .type "BaseException", .type "object"]))
    (in11 : InF K C11 "ValueError.__new__" [.type "ValueError", .type "Exception", .type "BaseException", .type "object"])
    (ii11 : PySem.W.findIn K (.ref C11) "__init__" = some (some (.ref i11))) (ti11 : PySem.W.typeIn K (.ref i11) = some (.type "function"))
    (no11_0 : PySem.W.findIn K (.ref C11) "line" = some none) (tk11_0 : PySem.W.takerIn K C11 "line" = some none)
    (no11_1 : PySem.W.findIn K (.ref C11) "word" = some none) (tk11_1 : PySem.W.takerIn K C11 "word" = some none)
    (lI11 : K.lookup i11 = some ⟨ocI11, odI11, .func (PySem.W.fnOf "__init__" "InvalidText.__init__" (defArgs s_InvalidText___init__) (defBody s_InvalidText___init__) (defScope s_InvalidText___init__) .none kVI11 docI11 pmI11 anI11 cdI11 ctI11), slI11⟩)
    (cI11 : PySem.W.codeIn K cdI11 "InvalidText.__init__" = true) (kI11 : PySem.W.keepIn K (.ref i11) = true)
    (cf12 : ClF K C12 (.ref C17 :: [.type "ValueError", .type "Exception", .type "BaseException", .type "object"]))
    (in12 : InF K C12 "ValueError.__new__" [.type "ValueError", .type "Exception", .type "BaseException", .type "object"])
    (ii12 : PySem.W.findIn K (.ref C12) "__init__" = some (some (.ref i12))) (ti12 : PySem.W.typeIn K (.ref i12) = some (.type "function"))
    (no12_0 : PySem.W.findIn K (.ref C12) "word" = some none) (tk12_0 : PySem.W.takerIn K C12 "word" = some none)
    (lI12 : K.lookup i12 = some ⟨ocI12, odI12, .func (PySem.W.fnOf "__init__" "UnknownCommand.__init__" (defArgs s_UnknownCommand___init__) (defBody s_UnknownCommand___init__) (defScope s_UnknownCommand___init__) .none kVI12 docI12 pmI12 anI12 cdI12 ctI12), slI12⟩)
    (cI12 : PySem.W.codeIn K cdI12 "UnknownCommand.__init__" = true) (kI12 : PySem.W.keepIn K (.ref i12) = true)
    (cf13 : ClF K C13 (.ref C18 :: [.type "LookupError", .type "Exception", .type "BaseException", .type "object"]))
    (in13 : InF K C13 "LookupError.__new__" [.type "LookupError", .type "Exception", .type "BaseException", .type "object"])
    (ii13 : PySem.W.findIn K (.ref C13) "__init__" = some (some (.ref i13))) (ti13 : PySem.W.typeIn K (.ref i13) = some (.type "function"))
    (no13_0 : PySem.W.findIn K (.ref C13) "name" = some none) (tk13_0 : PySem.W.takerIn K C13 "name" = some none)
    (lI13 : K.lookup i13 = some ⟨ocI13, odI13, .func (PySem.W.fnOf "__init__" "UnknownName.__init__" (defArgs s_UnknownName___init__) (defBody s_UnknownName___init__) (defScope s_UnknownName___init__) .none kVI13 docI13 pmI13 anI13 cdI13 ctI13), slI13⟩)
    (cI13 : PySem.W.codeIn K cdI13 "UnknownName.__init__" = true) (kI13 : PySem.W.keepIn K (.ref i13) = true)
    (cf14 : ClF K C14 (.ref C18 :: [.type "LookupError", .type "Exception", .type "BaseException", .type "object"]))
    (in14 : InF K C14 "LookupError.__new__" [.type "LookupError", .type "Exception", .type "BaseException", .type "object"])
    (ii14 : PySem.W.findIn K (.ref C14) "__init__" = some (some (.ref i14))) (ti14 : PySem.W.typeIn K (.ref i14) = some (.type "function"))
    (no14_0 : PySem.W.findIn K (.ref C14) "number" = some none) (tk14_0 : PySem.W.takerIn K C14 "number" = some none)
    (lI14 : K.lookup i14 = some ⟨ocI14, odI14, .func (PySem.W.fnOf "__init__" "NoItem.__init__" (defArgs s_NoItem___init__) (defBody s_NoItem___init__) (defScope s_NoItem___init__) .none kVI14 docI14 pmI14 anI14 cdI14 ctI14), slI14⟩)
    (cI14 : PySem.W.codeIn K cdI14 "NoItem.__init__" = true) (kI14 : PySem.W.keepIn K (.ref i14) = true)
    (cf15 : ClF K C15 ([.type "OverflowError", .type "ArithmeticError", .type "Exception", .type "BaseException", .type "object"]))
    (in15 : InF K C15 "OverflowError.__new__" [.type "OverflowError", .type "ArithmeticError", .type "Exception", .type "BaseException", .type "object"])
    (ii15 : PySem.W.findIn K (.ref C15) "__init__" = some (some (.ref i15))) (ti15 : PySem.W.typeIn K (.ref i15) = some (.type "function"))
    (no15_0 : PySem.W.findIn K (.ref C15) "limit" = some none) (tk15_0 : PySem.W.takerIn K C15 "limit" = some none)
    (lI15 : K.lookup i15 = some ⟨ocI15, odI15, .func (PySem.W.fnOf "__init__" "TooMany.__init__" (defArgs s_TooMany___init__) (defBody s_TooMany___init__) (defScope s_TooMany___init__) .none kVI15 docI15 pmI15 anI15 cdI15 ctI15), slI15⟩)
    (cI15 : PySem.W.codeIn K cdI15 "TooMany.__init__" = true) (kI15 : PySem.W.keepIn K (.ref i15) = true)
    (cf16 : ClF K C16 ([.type "IndexError", .type "LookupError", .type "Exception", .type "BaseException", .type "object"]))
    (in16 : InF K C16 "IndexError.__new__" [.type "IndexError", .type "LookupError", .type "Exception", .type "BaseException", .type "object"])
    (ii16 : PySem.W.findIn K (.ref C16) "__init__" = some (some (.ref i16))) (ti16 : PySem.W.typeIn K (.ref i16) = some (.type "function"))
    (no16_0 : PySem.W.findIn K (.ref C16) "count" = some none) (tk16_0 : PySem.W.takerIn K C16 "count" = some none)
    (lI16 : K.lookup i16 = some ⟨ocI16, odI16, .func (PySem.W.fnOf "__init__" "NothingToUndo.__init__" (defArgs s_NothingToUndo___init__) (defBody s_NothingToUndo___init__) (defScope s_NothingToUndo___init__) .none kVI16 docI16 pmI16 anI16 cdI16 ctI16), slI16⟩)
    (cI16 : PySem.W.codeIn K cdI16 "NothingToUndo.__init__" = true) (kI16 : PySem.W.keepIn K (.ref i16) = true)
    (cf17 : ClF K C17 ([.type "ValueError", .type "Exception", .type "BaseException", .type "object"]))
    (xn17 : PySem.W.excIn K C17 [.type "ValueError", .type "Exception", .type "BaseException", .type "object"] "ValueError.__new__" = true)
    (cf18 : ClF K C18 ([.type "LookupError", .type "Exception", .type "BaseException", .type "object"]))
    (xn18 : PySem.W.excIn K C18 [.type "LookupError", .type "Exception", .type "BaseException", .type "object"] "LookupError.__new__" = true)
    (cn : PySem.W.specialIn K (.builtin "object.__class__") "__get__" = some (some (.builtin "getset_descriptor.__get__"))) (ct : PySem.W.takesIn K (.builtin "object.__class__") = some true)
    (nd : [C0, C1, C2, C3, C4, C5, C6, C7, C8, C9, C10, C11, C12, C13, C14, C15, C16, C17, C18].Nodup)
    (z_int : PySem.W.nsIn K mainGlobals "int" = some none)
    (z_len : PySem.W.nsIn K mainGlobals "len" = some none)
    (z_abs : PySem.W.nsIn K mainGlobals "abs" = some none)
    (z_list : PySem.W.nsIn K mainGlobals "list" = some none)
    (z_range : PySem.W.nsIn K mainGlobals "range" = some none)
    (z_isinstance : PySem.W.nsIn K mainGlobals "isinstance" = some none)
    (z_repr : PySem.W.nsIn K mainGlobals "repr" = some none)
    (z_enumerate : PySem.W.nsIn K mainGlobals "enumerate" = some none)
    (z_ValueError : PySem.W.nsIn K mainGlobals "ValueError" = some none)
    (z_LookupError : PySem.W.nsIn K mainGlobals "LookupError" = some none)
    (z_OverflowError : PySem.W.nsIn K mainGlobals "OverflowError" = some none)
    (z_IndexError : PySem.W.nsIn K mainGlobals "IndexError" = some none) :
    ∃ fd : FuncData, (∀ (s : Shared) (u : Value), BindsTo s fd ⟨[u], []⟩ [("_law_script", u)]) ∧ ∀ base : Heap, K.In base → base.Ns mainGlobals mg → FnG P w K mg base CX0 5 fa fd ["_law_script"] (spLaw K) := by
  have e := hfa.symm.trans (PySem.W.mg_of X G a9)
  cases e
  have F0 := fun_mk (st := s_law_pen) l0 c0 k0
  have b0 := F0.binds (ps := ["_law_script"]) fun _ _ _ _ _ _ us hl => match us, hl with | [_], _ => rfl
  have g0 := PySem.W.mg_of X G a0
  have F1 := fun_mk (st := s_law_draw) l1 c1 k1
  have b1 := F1.binds (ps := ["_law_pen_here", "_law_many"]) fun _ _ _ _ _ _ us hl => match us, hl with | [_, _], _ => rfl
  have g1 := PySem.W.mg_of X G a1
  have F2 := fun_mk (st := s_law_pick) l2 c2 k2
  have b2 := F2.binds (ps := ["_law_pen_here", "_law_some"]) fun _ _ _ _ _ _ us hl => match us, hl with | [_, _], _ => rfl
  have g2 := PySem.W.mg_of X G a2
  have F3 := fun_mk (st := s_law_thing) l3 c3 k3
  have b3 := F3.binds (ps := ["_law_pen_here"]) fun _ _ _ _ _ _ us hl => match us, hl with | [_], _ => rfl
  have g3 := PySem.W.mg_of X G a3
  have F4 := fun_mk (st := s_law_made) l4 c4 k4
  have b4 := F4.binds (ps := ["_law_one", "_law_two"]) fun _ _ _ _ _ _ us hl => match us, hl with | [_, _], _ => rfl
  have g4 := PySem.W.mg_of X G a4
  have F5 := fun_mk (st := s_law_named) l5 c5 k5
  have b5 := F5.binds (ps := ["_law_one", "_law_two"]) fun _ _ _ _ _ _ us hl => match us, hl with | [_, _], _ => rfl
  have g5 := PySem.W.mg_of X G a5
  have F6 := fun_mk (st := s_law_fields) l6 c6 k6
  have b6 := F6.binds (ps := ["_law_k", "_law_caught"]) fun _ _ _ _ _ _ us hl => match us, hl with | [_, _], _ => rfl
  have g6 := PySem.W.mg_of X G a6
  have F7 := fun_mk (st := s_law_own) l7 c7 k7
  have b7 := F7.binds (ps := ["_law_caught"]) fun _ _ _ _ _ _ us hl => match us, hl with | [_], _ => rfl
  have g7 := PySem.W.mg_of X G a7
  have F8 := fun_mk (st := s_law_is_based) l8 c8 k8
  have b8 := F8.binds (ps := ["_law_k", "_law_caught"]) fun _ _ _ _ _ _ us hl => match us, hl with | [_, _], _ => rfl
  have g8 := PySem.W.mg_of X G a8
  have F9 := fun_mk (st := s_law) l9 c9 k9
  have zint := PySem.W.mg_none_of X G z_int
  have zlen := PySem.W.mg_none_of X G z_len
  have zabs := PySem.W.mg_none_of X G z_abs
  have zlist := PySem.W.mg_none_of X G z_list
  have zrange := PySem.W.mg_none_of X G z_range
  have zisinstance := PySem.W.mg_none_of X G z_isinstance
  have zrepr := PySem.W.mg_none_of X G z_repr
  have zenumerate := PySem.W.mg_none_of X G z_enumerate
  have zValueError := PySem.W.mg_none_of X G z_ValueError
  have zLookupError := PySem.W.mg_none_of X G z_LookupError
  have zOverflowError := PySem.W.mg_none_of X G z_OverflowError
  have zIndexError := PySem.W.mg_none_of X G z_IndexError
  have at' : ∀ i, i < 19 → ∃ C, [C0, C1, C2, C3, C4, C5, C6, C7, C8, C9, C10, C11, C12, C13, C14, C15, C16, C17, C18][i]? = some C := fun i hi => ⟨_, List.getElem?_eq_getElem hi⟩
  let cc : Nat → Addr := fun i => [C0, C1, C2, C3, C4, C5, C6, C7, C8, C9, C10, C11, C12, C13, C14, C15, C16, C17, C18].getD i 0
  have FI1 := fun_mk (st := s_InvalidBook___init__) lI1 cI1 kI1
  have KP1 := kbP FI1 (ps := ["self", "reason"]) fun _ _ _ _ _ _ us hl => match us, hl with | [_, _], _ => rfl
  have KR1 := kbR FI1 (ns := ["reason"]) fun _ _ _ _ _ _ us ws h1 h2 => match us, ws, h1, h2 with | [_], [_], _, _ => rfl
  have FI2 := fun_mk (st := s_InvalidPart___init__) lI2 cI2 kI2
  have KP2 := kbP FI2 (ps := ["self", "reason"]) fun _ _ _ _ _ _ us hl => match us, hl with | [_, _], _ => rfl
  have KR2 := kbR FI2 (ns := ["reason"]) fun _ _ _ _ _ _ us ws h1 h2 => match us, ws, h1, h2 with | [_], [_], _, _ => rfl
  have FI3 := fun_mk (st := s_InvalidNet___init__) lI3 cI3 kI3
  have KP3 := kbP FI3 (ps := ["self", "reason", "name"]) fun _ _ _ _ _ _ us hl => match us, hl with | [_, _, _], _ => rfl
  have KR3 := kbR FI3 (ns := ["reason", "name"]) fun _ _ _ _ _ _ us ws h1 h2 => match us, ws, h1, h2 with | [_], [_, _], _, _ => rfl
  have FI4 := fun_mk (st := s_InvalidCourse___init__) lI4 cI4 kI4
  have KP4 := kbP FI4 (ps := ["self", "reason"]) fun _ _ _ _ _ _ us hl => match us, hl with | [_, _], _ => rfl
  have KR4 := kbR FI4 (ns := ["reason"]) fun _ _ _ _ _ _ us ws h1 h2 => match us, ws, h1, h2 with | [_], [_], _, _ => rfl
  have FI5 := fun_mk (st := s_InvalidWeighting___init__) lI5 cI5 kI5
  have KP5 := kbP FI5 (ps := ["self", "reason"]) fun _ _ _ _ _ _ us hl => match us, hl with | [_, _], _ => rfl
  have KR5 := kbR FI5 (ns := ["reason"]) fun _ _ _ _ _ _ us ws h1 h2 => match us, ws, h1, h2 with | [_], [_], _, _ => rfl
  have FI6 := fun_mk (st := s_InvalidDeed___init__) lI6 cI6 kI6
  have KP6 := kbP FI6 (ps := ["self", "reason"]) fun _ _ _ _ _ _ us hl => match us, hl with | [_, _], _ => rfl
  have KR6 := kbR FI6 (ns := ["reason"]) fun _ _ _ _ _ _ us ws h1 h2 => match us, ws, h1, h2 with | [_], [_], _, _ => rfl
  have FI7 := fun_mk (st := s_InvalidItem___init__) lI7 cI7 kI7
  have KP7 := kbP FI7 (ps := ["self", "index"]) fun _ _ _ _ _ _ us hl => match us, hl with | [_, _], _ => rfl
  have KR7 := kbR FI7 (ns := ["index"]) fun _ _ _ _ _ _ us ws h1 h2 => match us, ws, h1, h2 with | [_], [_], _, _ => rfl
  have FI8 := fun_mk (st := s_InvalidCosts___init__) lI8 cI8 kI8
  have KP8 := kbP FI8 (ps := ["self", "name"]) fun _ _ _ _ _ _ us hl => match us, hl with | [_, _], _ => rfl
  have KR8 := kbR FI8 (ns := ["name"]) fun _ _ _ _ _ _ us ws h1 h2 => match us, ws, h1, h2 with | [_], [_], _, _ => rfl
  have FI9 := fun_mk (st := s_InvalidCount___init__) lI9 cI9 kI9
  have KP9 := kbP FI9 (ps := ["self", "name"]) fun _ _ _ _ _ _ us hl => match us, hl with | [_, _], _ => rfl
  have KR9 := kbR FI9 (ns := ["name"]) fun _ _ _ _ _ _ us ws h1 h2 => match us, ws, h1, h2 with | [_], [_], _, _ => rfl
  have FI10 := fun_mk (st := s_NotComparable___init__) lI10 cI10 kI10
  have KP10 := kbP FI10 (ps := ["self", "reason"]) fun _ _ _ _ _ _ us hl => match us, hl with | [_, _], _ => rfl
  have KR10 := kbR FI10 (ns := ["reason"]) fun _ _ _ _ _ _ us ws h1 h2 => match us, ws, h1, h2 with | [_], [_], _, _ => rfl
  have FI11 := fun_mk (st := s_InvalidText___init__) lI11 cI11 kI11
  have KP11 := kbP FI11 (ps := ["self", "line", "word"]) fun _ _ _ _ _ _ us hl => match us, hl with | [_, _, _], _ => rfl
  have KR11 := kbR FI11 (ns := ["line", "word"]) fun _ _ _ _ _ _ us ws h1 h2 => match us, ws, h1, h2 with | [_], [_, _], _, _ => rfl
  have FI12 := fun_mk (st := s_UnknownCommand___init__) lI12 cI12 kI12
  have KP12 := kbP FI12 (ps := ["self", "word"]) fun _ _ _ _ _ _ us hl => match us, hl with | [_, _], _ => rfl
  have KR12 := kbR FI12 (ns := ["word"]) fun _ _ _ _ _ _ us ws h1 h2 => match us, ws, h1, h2 with | [_], [_], _, _ => rfl
  have FI13 := fun_mk (st := s_UnknownName___init__) lI13 cI13 kI13
  have KP13 := kbP FI13 (ps := ["self", "name"]) fun _ _ _ _ _ _ us hl => match us, hl with | [_, _], _ => rfl
  have KR13 := kbR FI13 (ns := ["name"]) fun _ _ _ _ _ _ us ws h1 h2 => match us, ws, h1, h2 with | [_], [_], _, _ => rfl
  have FI14 := fun_mk (st := s_NoItem___init__) lI14 cI14 kI14
  have KP14 := kbP FI14 (ps := ["self", "number"]) fun _ _ _ _ _ _ us hl => match us, hl with | [_, _], _ => rfl
  have KR14 := kbR FI14 (ns := ["number"]) fun _ _ _ _ _ _ us ws h1 h2 => match us, ws, h1, h2 with | [_], [_], _, _ => rfl
  have FI15 := fun_mk (st := s_TooMany___init__) lI15 cI15 kI15
  have KP15 := kbP FI15 (ps := ["self", "limit"]) fun _ _ _ _ _ _ us hl => match us, hl with | [_, _], _ => rfl
  have KR15 := kbR FI15 (ns := ["limit"]) fun _ _ _ _ _ _ us ws h1 h2 => match us, ws, h1, h2 with | [_], [_], _, _ => rfl
  have FI16 := fun_mk (st := s_NothingToUndo___init__) lI16 cI16 kI16
  have KP16 := kbP FI16 (ps := ["self", "count"]) fun _ _ _ _ _ _ us hl => match us, hl with | [_, _], _ => rfl
  have KR16 := kbR FI16 (ns := ["count"]) fun _ _ _ _ _ _ us ws h1 h2 => match us, ws, h1, h2 with | [_], [_], _, _ => rfl
  have asks : ∀ {C : Addr} {tl : List Value}, ClF K C tl → AskC K C := fun c => ⟨c.hd, c.ga, c.gg, c.exC, c.ca, cn, ct, c.cm, c.keep⟩
  have ER1 : ErrC K C1 "ValueError" "ValueError.__new__" "ValueError.__init__" [.type "ValueError", .type "Exception", .type "BaseException", .type "object"] := ⟨F.excBase_ValueError, F.store_ValueError, in1.made, in1.over, in1.sa, asks cf1⟩
  have ER2 : ErrC K C2 "ValueError" "ValueError.__new__" "ValueError.__init__" [.type "ValueError", .type "Exception", .type "BaseException", .type "object"] := ⟨F.excBase_ValueError, F.store_ValueError, in2.made, in2.over, in2.sa, asks cf2⟩
  have ER3 : ErrC K C3 "ValueError" "ValueError.__new__" "ValueError.__init__" [.type "ValueError", .type "Exception", .type "BaseException", .type "object"] := ⟨F.excBase_ValueError, F.store_ValueError, in3.made, in3.over, in3.sa, asks cf3⟩
  have ER4 : ErrC K C4 "ValueError" "ValueError.__new__" "ValueError.__init__" [.type "ValueError", .type "Exception", .type "BaseException", .type "object"] := ⟨F.excBase_ValueError, F.store_ValueError, in4.made, in4.over, in4.sa, asks cf4⟩
  have ER5 : ErrC K C5 "ValueError" "ValueError.__new__" "ValueError.__init__" [.type "ValueError", .type "Exception", .type "BaseException", .type "object"] := ⟨F.excBase_ValueError, F.store_ValueError, in5.made, in5.over, in5.sa, asks cf5⟩
  have ER6 : ErrC K C6 "ValueError" "ValueError.__new__" "ValueError.__init__" [.type "ValueError", .type "Exception", .type "BaseException", .type "object"] := ⟨F.excBase_ValueError, F.store_ValueError, in6.made, in6.over, in6.sa, asks cf6⟩
  have ER7 : ErrC K C7 "ValueError" "ValueError.__new__" "ValueError.__init__" [.type "ValueError", .type "Exception", .type "BaseException", .type "object"] := ⟨F.excBase_ValueError, F.store_ValueError, in7.made, in7.over, in7.sa, asks cf7⟩
  have ER8 : ErrC K C8 "ValueError" "ValueError.__new__" "ValueError.__init__" [.type "ValueError", .type "Exception", .type "BaseException", .type "object"] := ⟨F.excBase_ValueError, F.store_ValueError, in8.made, in8.over, in8.sa, asks cf8⟩
  have ER9 : ErrC K C9 "ValueError" "ValueError.__new__" "ValueError.__init__" [.type "ValueError", .type "Exception", .type "BaseException", .type "object"] := ⟨F.excBase_ValueError, F.store_ValueError, in9.made, in9.over, in9.sa, asks cf9⟩
  have ER10 : ErrC K C10 "ValueError" "ValueError.__new__" "ValueError.__init__" [.type "ValueError", .type "Exception", .type "BaseException", .type "object"] := ⟨F.excBase_ValueError, F.store_ValueError, in10.made, in10.over, in10.sa, asks cf10⟩
  have ER11 : ErrC K C11 "ValueError" "ValueError.__new__" "ValueError.__init__" [.type "ValueError", .type "Exception", .type "BaseException", .type "object"] := ⟨F.excBase_ValueError, F.store_ValueError, in11.made, in11.over, in11.sa, asks cf11⟩
  have ER12 : ErrC K C12 "ValueError" "ValueError.__new__" "ValueError.__init__" [.type "ValueError", .type "Exception", .type "BaseException", .type "object"] := ⟨F.excBase_ValueError, F.store_ValueError, in12.made, in12.over, in12.sa, asks cf12⟩
  have ER13 : ErrC K C13 "LookupError" "LookupError.__new__" "LookupError.__init__" [.type "LookupError", .type "Exception", .type "BaseException", .type "object"] := ⟨F.excBase_LookupError, F.store_LookupError, in13.made, in13.over, in13.sa, asks cf13⟩
  have ER14 : ErrC K C14 "LookupError" "LookupError.__new__" "LookupError.__init__" [.type "LookupError", .type "Exception", .type "BaseException", .type "object"] := ⟨F.excBase_LookupError, F.store_LookupError, in14.made, in14.over, in14.sa, asks cf14⟩
  have ER15 : ErrC K C15 "OverflowError" "OverflowError.__new__" "OverflowError.__init__" [.type "OverflowError", .type "ArithmeticError", .type "Exception", .type "BaseException", .type "object"] := ⟨F.excBase_OverflowError, F.store_OverflowError, in15.made, in15.over, in15.sa, asks cf15⟩
  have ER16 : ErrC K C16 "IndexError" "IndexError.__new__" "IndexError.__init__" [.type "IndexError", .type "LookupError", .type "Exception", .type "BaseException", .type "object"] := ⟨F.excBase_IndexError, F.store_IndexError, in16.made, in16.over, in16.sa, asks cf16⟩
  refine ⟨PySem.W.fnOf "law" "law" (defArgs s_law) (defBody s_law) (defScope s_law) .none kV9 doc9 pm9 an9 cd9 ct9, fun s v => .of_eq rfl, fun base _ _ => ?_⟩
  have L : Lay P w K mg base cc := by
    have sp : ∀ i, i < 19 → i = 0 ∨ i = 1 ∨ i = 2 ∨ i = 3 ∨ i = 4 ∨ i = 5 ∨ i = 6 ∨ i = 7 ∨ i = 8 ∨ i = 9 ∨ i = 10 ∨ i = 11 ∨ i = 12 ∨ i = 13 ∨ i = 14 ∨ i = 15 ∨ i = 16 ∨ i = 17 ∨ i = 18 := fun i hi => by omega
    refine ⟨fun i j hi hj e => ?_, fun i hi => ?_, fun i hi => ?_, fun i hi => ?_, fun i hi => ?_, fun i hi => ?_, fun i hi => ?_, fun i h1 h2 => ?_⟩
    · have e' : [C0, C1, C2, C3, C4, C5, C6, C7, C8, C9, C10, C11, C12, C13, C14, C15, C16, C17, C18].getD i 0 = [C0, C1, C2, C3, C4, C5, C6, C7, C8, C9, C10, C11, C12, C13, C14, C15, C16, C17, C18].getD j 0 := e
      have some' : ∀ (l : List Addr) (m : Nat), m < l.length → l[m]? = some (l.getD m 0) := fun l m hm => by
        rw [List.getD_eq_getElem?_getD, List.getElem?_eq_getElem hm]
        rfl
      have hi' : i < [C0, C1, C2, C3, C4, C5, C6, C7, C8, C9, C10, C11, C12, C13, C14, C15, C16, C17, C18].length := hi
      have hj' : j < [C0, C1, C2, C3, C4, C5, C6, C7, C8, C9, C10, C11, C12, C13, C14, C15, C16, C17, C18].length := hj
      exact (List.getElem?_inj hi' nd).mp (by rw [some' _ i hi', some' _ j hj', e'])
    · rcases sp i hi with rfl | rfl | rfl | rfl | rfl | rfl | rfl | rfl | rfl | rfl | rfl | rfl | rfl | rfl | rfl | rfl | rfl | rfl | rfl
      · exact PySem.W.mg_of X G ac0
      · exact PySem.W.mg_of X G ac1
      · exact PySem.W.mg_of X G ac2
      · exact PySem.W.mg_of X G ac3
      · exact PySem.W.mg_of X G ac4
      · exact PySem.W.mg_of X G ac5
      · exact PySem.W.mg_of X G ac6
      · exact PySem.W.mg_of X G ac7
      · exact PySem.W.mg_of X G ac8
      · exact PySem.W.mg_of X G ac9
      · exact PySem.W.mg_of X G ac10
      · exact PySem.W.mg_of X G ac11
      · exact PySem.W.mg_of X G ac12
      · exact PySem.W.mg_of X G ac13
      · exact PySem.W.mg_of X G ac14
      · exact PySem.W.mg_of X G ac15
      · exact PySem.W.mg_of X G ac16
      · exact PySem.W.mg_of X G ac17
      · exact PySem.W.mg_of X G ac18
    · rcases sp i hi with rfl | rfl | rfl | rfl | rfl | rfl | rfl | rfl | rfl | rfl | rfl | rfl | rfl | rfl | rfl | rfl | rfl | rfl | rfl
      · exact asks cf0
      · exact asks cf1
      · exact asks cf2
      · exact asks cf3
      · exact asks cf4
      · exact asks cf5
      · exact asks cf6
      · exact asks cf7
      · exact asks cf8
      · exact asks cf9
      · exact asks cf10
      · exact asks cf11
      · exact asks cf12
      · exact asks cf13
      · exact asks cf14
      · exact asks cf15
      · exact asks cf16
      · exact asks cf17
      · exact asks cf18
    · rcases sp i hi with rfl | rfl | rfl | rfl | rfl | rfl | rfl | rfl | rfl | rfl | rfl | rfl | rfl | rfl | rfl | rfl | rfl | rfl | rfl
      · exact Option.map_eq_some_iff.mp cf0.cls
      · exact Option.map_eq_some_iff.mp cf1.cls
      · exact Option.map_eq_some_iff.mp cf2.cls
      · exact Option.map_eq_some_iff.mp cf3.cls
      · exact Option.map_eq_some_iff.mp cf4.cls
      · exact Option.map_eq_some_iff.mp cf5.cls
      · exact Option.map_eq_some_iff.mp cf6.cls
      · exact Option.map_eq_some_iff.mp cf7.cls
      · exact Option.map_eq_some_iff.mp cf8.cls
      · exact Option.map_eq_some_iff.mp cf9.cls
      · exact Option.map_eq_some_iff.mp cf10.cls
      · exact Option.map_eq_some_iff.mp cf11.cls
      · exact Option.map_eq_some_iff.mp cf12.cls
      · exact Option.map_eq_some_iff.mp cf13.cls
      · exact Option.map_eq_some_iff.mp cf14.cls
      · exact Option.map_eq_some_iff.mp cf15.cls
      · exact Option.map_eq_some_iff.mp cf16.cls
      · exact Option.map_eq_some_iff.mp cf17.cls
      · exact Option.map_eq_some_iff.mp cf18.cls
    · rcases sp i hi with rfl | rfl | rfl | rfl | rfl | rfl | rfl | rfl | rfl | rfl | rfl | rfl | rfl | rfl | rfl | rfl | rfl | rfl | rfl
      · exact cf0.ty
      · exact cf1.ty
      · exact cf2.ty
      · exact cf3.ty
      · exact cf4.ty
      · exact cf5.ty
      · exact cf6.ty
      · exact cf7.ty
      · exact cf8.ty
      · exact cf9.ty
      · exact cf10.ty
      · exact cf11.ty
      · exact cf12.ty
      · exact cf13.ty
      · exact cf14.ty
      · exact cf15.ty
      · exact cf16.ty
      · exact cf17.ty
      · exact cf18.ty
    · rcases sp i hi with rfl | rfl | rfl | rfl | rfl | rfl | rfl | rfl | rfl | rfl | rfl | rfl | rfl | rfl | rfl | rfl | rfl | rfl | rfl
      · intro f hf
        cases hf
      · intro f hf
        rw [List.mem_singleton.mp hf]
        exact no1_0
      · intro f hf
        rw [List.mem_singleton.mp hf]
        exact no2_0
      · intro f hf
        rcases List.mem_cons.mp hf with e | e
        · rw [e]
          exact no3_0
        · rw [List.mem_singleton.mp e]
          exact no3_1
      · intro f hf
        rw [List.mem_singleton.mp hf]
        exact no4_0
      · intro f hf
        rw [List.mem_singleton.mp hf]
        exact no5_0
      · intro f hf
        rw [List.mem_singleton.mp hf]
        exact no6_0
      · intro f hf
        rw [List.mem_singleton.mp hf]
        exact no7_0
      · intro f hf
        rw [List.mem_singleton.mp hf]
        exact no8_0
      · intro f hf
        rw [List.mem_singleton.mp hf]
        exact no9_0
      · intro f hf
        rw [List.mem_singleton.mp hf]
        exact no10_0
      · intro f hf
        rcases List.mem_cons.mp hf with e | e
        · rw [e]
          exact no11_0
        · rw [List.mem_singleton.mp e]
          exact no11_1
      · intro f hf
        rw [List.mem_singleton.mp hf]
        exact no12_0
      · intro f hf
        rw [List.mem_singleton.mp hf]
        exact no13_0
      · intro f hf
        rw [List.mem_singleton.mp hf]
        exact no14_0
      · intro f hf
        rw [List.mem_singleton.mp hf]
        exact no15_0
      · intro f hf
        rw [List.mem_singleton.mp hf]
        exact no16_0
      · intro f hf
        cases hf
      · intro f hf
        cases hf
    · rcases hi with rfl | rfl | rfl
      · exact ⟨"ValueError", "ValueError.__new__", "ValueError.__init__", _, F.excBase_ValueError, xn0⟩
      · exact ⟨"ValueError", "ValueError.__new__", "ValueError.__init__", _, F.excBase_ValueError, xn17⟩
      · exact ⟨"LookupError", "LookupError.__new__", "LookupError.__init__", _, F.excBase_LookupError, xn18⟩
    · have s2 : i = 1 ∨ i = 2 ∨ i = 3 ∨ i = 4 ∨ i = 5 ∨ i = 6 ∨ i = 7 ∨ i = 8 ∨ i = 9 ∨ i = 10 ∨ i = 11 ∨ i = 12 ∨ i = 13 ∨ i = 14 ∨ i = 15 ∨ i = 16 := by omega
      rcases s2 with rfl | rfl | rfl | rfl | rfl | rfl | rfl | rfl | rfl | rfl | rfl | rfl | rfl | rfl | rfl | rfl
      · exact ⟨i1, _, _, _, _, _, ER1, ii1, ti1, ok_InvalidBook___init__ FI1 ⟨_, _, _, _, ER1⟩ tk1_0, KP1, KR1⟩
      · exact ⟨i2, _, _, _, _, _, ER2, ii2, ti2, ok_InvalidPart___init__ FI2 ⟨_, _, _, _, ER2⟩ tk2_0, KP2, KR2⟩
      · exact ⟨i3, _, _, _, _, _, ER3, ii3, ti3, ok_InvalidNet___init__ FI3 ⟨_, _, _, _, ER3⟩ tk3_0 tk3_1, KP3, KR3⟩
      · exact ⟨i4, _, _, _, _, _, ER4, ii4, ti4, ok_InvalidCourse___init__ FI4 ⟨_, _, _, _, ER4⟩ tk4_0, KP4, KR4⟩
      · exact ⟨i5, _, _, _, _, _, ER5, ii5, ti5, ok_InvalidWeighting___init__ FI5 ⟨_, _, _, _, ER5⟩ tk5_0, KP5, KR5⟩
      · exact ⟨i6, _, _, _, _, _, ER6, ii6, ti6, ok_InvalidDeed___init__ FI6 ⟨_, _, _, _, ER6⟩ tk6_0, KP6, KR6⟩
      · exact ⟨i7, _, _, _, _, _, ER7, ii7, ti7, ok_InvalidItem___init__ FI7 ⟨_, _, _, _, ER7⟩ tk7_0, KP7, KR7⟩
      · exact ⟨i8, _, _, _, _, _, ER8, ii8, ti8, ok_InvalidCosts___init__ FI8 ⟨_, _, _, _, ER8⟩ tk8_0, KP8, KR8⟩
      · exact ⟨i9, _, _, _, _, _, ER9, ii9, ti9, ok_InvalidCount___init__ FI9 ⟨_, _, _, _, ER9⟩ tk9_0, KP9, KR9⟩
      · exact ⟨i10, _, _, _, _, _, ER10, ii10, ti10, ok_NotComparable___init__ FI10 ⟨_, _, _, _, ER10⟩ tk10_0, KP10, KR10⟩
      · exact ⟨i11, _, _, _, _, _, ER11, ii11, ti11, ok_InvalidText___init__ FI11 ⟨_, _, _, _, ER11⟩ tk11_0 tk11_1, KP11, KR11⟩
      · exact ⟨i12, _, _, _, _, _, ER12, ii12, ti12, ok_UnknownCommand___init__ FI12 ⟨_, _, _, _, ER12⟩ tk12_0, KP12, KR12⟩
      · exact ⟨i13, _, _, _, _, _, ER13, ii13, ti13, ok_UnknownName___init__ FI13 ⟨_, _, _, _, ER13⟩ tk13_0, KP13, KR13⟩
      · exact ⟨i14, _, _, _, _, _, ER14, ii14, ti14, ok_NoItem___init__ FI14 ⟨_, _, _, _, ER14⟩ tk14_0, KP14, KR14⟩
      · exact ⟨i15, _, _, _, _, _, ER15, ii15, ti15, ok_TooMany___init__ FI15 ⟨_, _, _, _, ER15⟩ tk15_0, KP15, KR15⟩
      · exact ⟨i16, _, _, _, _, _, ER16, ii16, ti16, ok_NothingToUndo___init__ FI16 ⟨_, _, _, _, ER16⟩ tk16_0, KP16, KR16⟩
  exact ok_law F9 L ⟨zint, zlen, zabs⟩ ⟨zlist, zlen, zrange⟩ ⟨zisinstance, zrange, zValueError, zLookupError, zOverflowError, zIndexError⟩ ⟨zrepr, zlist, zenumerate, zrange, zint, zisinstance, zValueError, zLookupError⟩ F0 b0 g0 F1 b1 g1 F2 b2 g2 F3 b3 g3 F4 b4 g4 F5 b5 g5 F6 b6 g6 F7 b7 g7 F8 b8 g8

end K1
open PySem PySem.W PyProof.Rows
set_option maxRecDepth 100000 in
set_option maxHeartbeats 0 in
theorem PySem.Challenge.cw_evenends_k01_errors_and_their_fields_holds : PySem.Challenge.rw_evenends_k01_errors_and_their_fields.Holds := by
  w_on; o_law; k_head; (case hw => w_witness2)
  k_fill
  refine EvG.walkG (x := "_law_script") (k := 5) (n := 63) (sp := K1.spLaw) (l := PySem.Challenge.rw_evenends_k01_errors_and_their_fields) rfl (by decide) rfl ⟨rfl, by decide, by decide⟩ (fun w h Y => PySem.W.kIn_of Y) ?F (fun K H a ns hl _ hS => ⟨a, ns, rfl, hS, hl, fun _ => rfl⟩)
  case F =>
    intro w mg fa h KX G hmg
    refine' K1.all_mk KX G hmg ?a0 ?l0 ?c0 ?k0 ?a1 ?l1 ?c1 ?k1 ?a2 ?l2 ?c2 ?k2 ?a3 ?l3 ?c3 ?k3 ?a4 ?l4 ?c4 ?k4 ?a5 ?l5 ?c5 ?k5 ?a6 ?l6 ?c6 ?k6 ?a7 ?l7 ?c7 ?k7 ?a8 ?l8 ?c8 ?k8 ?a9 ?l9 ?c9 ?k9 ?ac0 ?ac1 ?ac2 ?ac3 ?ac4 ?ac5 ?ac6 ?ac7 ?ac8 ?ac9 ?ac10 ?ac11 ?ac12 ?ac13 ?ac14 ?ac15 ?ac16 ?ac17 ?ac18 ?cf0 ?xn0 ?cf1 ?in1 ?ii1 ?ti1 ?no1_0 ?tk1_0 ?lI1 ?cI1 ?kI1 ?cf2 ?in2 ?ii2 ?ti2 ?no2_0 ?tk2_0 ?lI2 ?cI2 ?kI2 ?cf3 ?in3 ?ii3 ?ti3 ?no3_0 ?tk3_0 ?no3_1 ?tk3_1 ?lI3 ?cI3 ?kI3 ?cf4 ?in4 ?ii4 ?ti4 ?no4_0 ?tk4_0 ?lI4 ?cI4 ?kI4 ?cf5 ?in5 ?ii5 ?ti5 ?no5_0 ?tk5_0 ?lI5 ?cI5 ?kI5 ?cf6 ?in6 ?ii6 ?ti6 ?no6_0 ?tk6_0 ?lI6 ?cI6 ?kI6 ?cf7 ?in7 ?ii7 ?ti7 ?no7_0 ?tk7_0 ?lI7 ?cI7 ?kI7 ?cf8 ?in8 ?ii8 ?ti8 ?no8_0 ?tk8_0 ?lI8 ?cI8 ?kI8 ?cf9 ?in9 ?ii9 ?ti9 ?no9_0 ?tk9_0 ?lI9 ?cI9 ?kI9 ?cf10 ?in10 ?ii10 ?ti10 ?no10_0 ?tk10_0 ?lI10 ?cI10 ?kI10 ?cf11 ?in11 ?ii11 ?ti11 ?no11_0 ?tk11_0 ?no11_1 ?tk11_1 ?lI11 ?cI11 ?kI11 ?cf12 ?in12 ?ii12 ?ti12 ?no12_0 ?tk12_0 ?lI12 ?cI12 ?kI12 ?cf13 ?in13 ?ii13 ?ti13 ?no13_0 ?tk13_0 ?lI13 ?cI13 ?kI13 ?cf14 ?in14 ?ii14 ?ti14 ?no14_0 ?tk14_0 ?lI14 ?cI14 ?kI14 ?cf15 ?in15 ?ii15 ?ti15 ?no15_0 ?tk15_0 ?lI15 ?cI15 ?kI15 ?cf16 ?in16 ?ii16 ?ti16 ?no16_0 ?tk16_0 ?lI16 ?cI16 ?kI16 ?cf17 ?xn17 ?cf18 ?xn18 ?cn ?ct ?nd ?z_int ?z_len ?z_abs ?z_list ?z_range ?z_isinstance ?z_repr ?z_enumerate ?z_ValueError ?z_LookupError ?z_OverflowError ?z_IndexError
    (case a0 => k_is)
    (case l0 => k_is)
    (case c0 => k_is)
    (case k0 => k_is)
    (case a1 => k_is)
    (case l1 => k_is)
    (case c1 => k_is)
    (case k1 => k_is)
    (case a2 => k_is)
    (case l2 => k_is)
    (case c2 => k_is)
    (case k2 => k_is)
    (case a3 => k_is)
    (case l3 => k_is)
    (case c3 => k_is)
    (case k3 => k_is)
    (case a4 => k_is)
    (case l4 => k_is)
    (case c4 => k_is)
    (case k4 => k_is)
    (case a5 => k_is)
    (case l5 => k_is)
    (case c5 => k_is)
    (case k5 => k_is)
    (case a6 => k_is)
    (case l6 => k_is)
    (case c6 => k_is)
    (case k6 => k_is)
    (case a7 => k_is)
    (case l7 => k_is)
    (case c7 => k_is)
    (case k7 => k_is)
    (case a8 => k_is)
    (case l8 => k_is)
    (case c8 => k_is)
    (case k8 => k_is)
    (case a9 => k_is)
    (case l9 => k_is)
    (case c9 => k_is)
    (case k9 => k_is)
    (case ac0 => k_is)
    (case ac1 => k_is)
    (case ac2 => k_is)
    (case ac3 => k_is)
    (case ac4 => k_is)
    (case ac5 => k_is)
    (case ac6 => k_is)
    (case ac7 => k_is)
    (case ac8 => k_is)
    (case ac9 => k_is)
    (case ac10 => k_is)
    (case ac11 => k_is)
    (case ac12 => k_is)
    (case ac13 => k_is)
    (case ac14 => k_is)
    (case ac15 => k_is)
    (case ac16 => k_is)
    (case ac17 => k_is)
    (case ac18 => k_is)
    (case cf0 => exact ⟨by k_is, by k_is, by k_is, by k_is, by k_is, by k_is, by k_is, by k_is, by kernel_rfl⟩)
    (case xn0 => k_exc)
    (case cf1 => exact ⟨by k_is, by k_is, by k_is, by k_is, by k_is, by k_is, by k_is, by k_is, by kernel_rfl⟩)
    (case in1 => exact ⟨by kx_is, by kx_is, by k_is⟩)
    (case ii1 => k_is)
    (case ti1 => k_is)
    (case no1_0 => k_is)
    (case tk1_0 => k_is)
    (case lI1 => k_is)
    (case cI1 => k_is)
    (case kI1 => k_is)
    (case cf2 => exact ⟨by k_is, by k_is, by k_is, by k_is, by k_is, by k_is, by k_is, by k_is, by kernel_rfl⟩)
    (case in2 => exact ⟨by kx_is, by kx_is, by k_is⟩)
    (case ii2 => k_is)
    (case ti2 => k_is)
    (case no2_0 => k_is)
    (case tk2_0 => k_is)
    (case lI2 => k_is)
    (case cI2 => k_is)
    (case kI2 => k_is)
    (case cf3 => exact ⟨by k_is, by k_is, by k_is, by k_is, by k_is, by k_is, by k_is, by k_is, by kernel_rfl⟩)
    (case in3 => exact ⟨by kx_is, by kx_is, by k_is⟩)
    (case ii3 => k_is)
    (case ti3 => k_is)
    (case no3_0 => k_is)
    (case tk3_0 => k_is)
    (case no3_1 => k_is)
    (case tk3_1 => k_is)
    (case lI3 => k_is)
    (case cI3 => k_is)
    (case kI3 => k_is)
    (case cf4 => exact ⟨by k_is, by k_is, by k_is, by k_is, by k_is, by k_is, by k_is, by k_is, by kernel_rfl⟩)
    (case in4 => exact ⟨by kx_is, by kx_is, by k_is⟩)
    (case ii4 => k_is)
    (case ti4 => k_is)
    (case no4_0 => k_is)
    (case tk4_0 => k_is)
    (case lI4 => k_is)
    (case cI4 => k_is)
    (case kI4 => k_is)
    (case cf5 => exact ⟨by k_is, by k_is, by k_is, by k_is, by k_is, by k_is, by k_is, by k_is, by kernel_rfl⟩)
    (case in5 => exact ⟨by kx_is, by kx_is, by k_is⟩)
    (case ii5 => k_is)
    (case ti5 => k_is)
    (case no5_0 => k_is)
    (case tk5_0 => k_is)
    (case lI5 => k_is)
    (case cI5 => k_is)
    (case kI5 => k_is)
    (case cf6 => exact ⟨by k_is, by k_is, by k_is, by k_is, by k_is, by k_is, by k_is, by k_is, by kernel_rfl⟩)
    (case in6 => exact ⟨by kx_is, by kx_is, by k_is⟩)
    (case ii6 => k_is)
    (case ti6 => k_is)
    (case no6_0 => k_is)
    (case tk6_0 => k_is)
    (case lI6 => k_is)
    (case cI6 => k_is)
    (case kI6 => k_is)
    (case cf7 => exact ⟨by k_is, by k_is, by k_is, by k_is, by k_is, by k_is, by k_is, by k_is, by kernel_rfl⟩)
    (case in7 => exact ⟨by kx_is, by kx_is, by k_is⟩)
    (case ii7 => k_is)
    (case ti7 => k_is)
    (case no7_0 => k_is)
    (case tk7_0 => k_is)
    (case lI7 => k_is)
    (case cI7 => k_is)
    (case kI7 => k_is)
    (case cf8 => exact ⟨by k_is, by k_is, by k_is, by k_is, by k_is, by k_is, by k_is, by k_is, by kernel_rfl⟩)
    (case in8 => exact ⟨by kx_is, by kx_is, by k_is⟩)
    (case ii8 => k_is)
    (case ti8 => k_is)
    (case no8_0 => k_is)
    (case tk8_0 => k_is)
    (case lI8 => k_is)
    (case cI8 => k_is)
    (case kI8 => k_is)
    (case cf9 => exact ⟨by k_is, by k_is, by k_is, by k_is, by k_is, by k_is, by k_is, by k_is, by kernel_rfl⟩)
    (case in9 => exact ⟨by kx_is, by kx_is, by k_is⟩)
    (case ii9 => k_is)
    (case ti9 => k_is)
    (case no9_0 => k_is)
    (case tk9_0 => k_is)
    (case lI9 => k_is)
    (case cI9 => k_is)
    (case kI9 => k_is)
    (case cf10 => exact ⟨by k_is, by k_is, by k_is, by k_is, by k_is, by k_is, by k_is, by k_is, by kernel_rfl⟩)
    (case in10 => exact ⟨by kx_is, by kx_is, by k_is⟩)
    (case ii10 => k_is)
    (case ti10 => k_is)
    (case no10_0 => k_is)
    (case tk10_0 => k_is)
    (case lI10 => k_is)
    (case cI10 => k_is)
    (case kI10 => k_is)
    (case cf11 => exact ⟨by k_is, by k_is, by k_is, by k_is, by k_is, by k_is, by k_is, by k_is, by kernel_rfl⟩)
    (case in11 => exact ⟨by kx_is, by kx_is, by k_is⟩)
    (case ii11 => k_is)
    (case ti11 => k_is)
    (case no11_0 => k_is)
    (case tk11_0 => k_is)
    (case no11_1 => k_is)
    (case tk11_1 => k_is)
    (case lI11 => k_is)
    (case cI11 => k_is)
    (case kI11 => k_is)
    (case cf12 => exact ⟨by k_is, by k_is, by k_is, by k_is, by k_is, by k_is, by k_is, by k_is, by kernel_rfl⟩)
    (case in12 => exact ⟨by kx_is, by kx_is, by k_is⟩)
    (case ii12 => k_is)
    (case ti12 => k_is)
    (case no12_0 => k_is)
    (case tk12_0 => k_is)
    (case lI12 => k_is)
    (case cI12 => k_is)
    (case kI12 => k_is)
    (case cf13 => exact ⟨by k_is, by k_is, by k_is, by k_is, by k_is, by k_is, by k_is, by k_is, by kernel_rfl⟩)
    (case in13 => exact ⟨by kx_is, by kx_is, by k_is⟩)
    (case ii13 => k_is)
    (case ti13 => k_is)
    (case no13_0 => k_is)
    (case tk13_0 => k_is)
    (case lI13 => k_is)
    (case cI13 => k_is)
    (case kI13 => k_is)
    (case cf14 => exact ⟨by k_is, by k_is, by k_is, by k_is, by k_is, by k_is, by k_is, by k_is, by kernel_rfl⟩)
    (case in14 => exact ⟨by kx_is, by kx_is, by k_is⟩)
    (case ii14 => k_is)
    (case ti14 => k_is)
    (case no14_0 => k_is)
    (case tk14_0 => k_is)
    (case lI14 => k_is)
    (case cI14 => k_is)
    (case kI14 => k_is)
    (case cf15 => exact ⟨by k_is, by k_is, by k_is, by k_is, by k_is, by k_is, by k_is, by k_is, by kernel_rfl⟩)
    (case in15 => exact ⟨by kx_is, by kx_is, by k_is⟩)
    (case ii15 => k_is)
    (case ti15 => k_is)
    (case no15_0 => k_is)
    (case tk15_0 => k_is)
    (case lI15 => k_is)
    (case cI15 => k_is)
    (case kI15 => k_is)
    (case cf16 => exact ⟨by k_is, by k_is, by k_is, by k_is, by k_is, by k_is, by k_is, by k_is, by kernel_rfl⟩)
    (case in16 => exact ⟨by kx_is, by kx_is, by k_is⟩)
    (case ii16 => k_is)
    (case ti16 => k_is)
    (case no16_0 => k_is)
    (case tk16_0 => k_is)
    (case lI16 => k_is)
    (case cI16 => k_is)
    (case kI16 => k_is)
    (case cf17 => exact ⟨by k_is, by k_is, by k_is, by k_is, by k_is, by k_is, by k_is, by k_is, by kernel_rfl⟩)
    (case xn17 => k_exc)
    (case cf18 => exact ⟨by k_is, by k_is, by k_is, by k_is, by k_is, by k_is, by k_is, by k_is, by kernel_rfl⟩)
    (case xn18 => k_exc)
    (case cn => k_is)
    (case ct => k_is)
    (case nd => decide)
    (case z_int => k_is)
    (case z_len => k_is)
    (case z_abs => k_is)
    (case z_list => k_is)
    (case z_range => k_is)
    (case z_isinstance => k_is)
    (case z_repr => k_is)
    (case z_enumerate => k_is)
    (case z_ValueError => k_is)
    (case z_LookupError => k_is)
    (case z_OverflowError => k_is)
    (case z_IndexError => k_is)
