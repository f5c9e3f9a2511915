import PyProof.Rows.All
import Wide.All
import OpenK.AllK
import Wide.FinOn
import HandS.ForMost
import HandS.IsInst
import HandS.StrMore
import HandS.Steps
import HandS.Walk
import PySem.Challenge.RW_evenends_k02_names_and_integers_known
set_option Elab.async false
set_option linter.all false
set_option maxRecDepth 100000
set_option maxHeartbeats 4000000

/-! Defs that may show data: their promise is asked where no object is being shown (no guard is set). -/
namespace EvG
open PySem PySem.Spec PyProof.Rows L2

/-- a def's promise, asked only where nothing is being shown -/
structure FnG (P : Program) (w : World) (K : PySem.W.Frag) (mg : Str → Option Value) (base : Heap) (CX : CXT) (k : Nat) (f : Addr) (fd : FuncData) (ps : List Str) (sp : Sp) : Prop where
  len : ∀ vs H Q E, sp vs H Q E → vs.length = ps.length
  go : ∀ (A : Around) (outer : List Env) (s : Shared) (H : Hp) (args : Args) (us : List Value) (vs : List V) (Q : VK) (E : XK), A.guards = some [] → Room k A → Env0 P w K mg base A outer s H →
    BindsTo s fd args (ps.zip us) → Vals vs us → sp vs H Q E → codeAny (model P w) A (.call (.ref f) args) (CR CX outer P w H s Q E) s

section
variable {P : Program} {w : World} {K : PySem.W.Frag} {mg : Str → Option Value} {base : Heap} {CX : CXT} {k : Nat} {f : Addr} {fd : FuncData} {ps : List Str} {sp : Sp}
theorem FnG.of (F : FnOk P w K mg base CX k f fd ps sp) : FnG P w K mg base CX k f fd ps sp :=
  ⟨F.len, fun A outer s H args us vs Q E _ hr e0 hb r h => F.run A outer s H args us vs Q E hr e0 hb r h⟩
theorem FnG.mono {j : Nat} (F : FnG P w K mg base CX j f fd ps sp) (h : j ≤ k) : FnG P w K mg base CX k f fd ps sp :=
  ⟨F.len, fun A outer s H args us vs Q E g hr e0 hb r q => F.go A outer s H args us vs Q E g (hr.mono h) e0 hb r q⟩
end

theorem endG {P : Program} {w : World} {outer : List Env} {s : Shared} {H : Hp} {Q : VK} {X : Cx} {σ : L2.St} {H' : Hp} {s' : Shared} {v : V} {u : Value} (J : Inv X [] σ H' s') (rv : RelV v u) (q : Q v H')
    (eP : X.prog = P) (ew : X.w = w) (eo : X.outer = outer) (es : X.s_0 = s) (ex : X.ex = []) (eH : X.H_0 = H) : CE outer P w H s Q u s' := by
  subst eP; subst ew; subst eo; subst es; subst eH
  have b := J.base
  rw [ex] at b
  exact ⟨v, H', J.os, J.bare, b, J.hok, rv, q⟩

/-- a def of the text keeps its promise by its body, nothing being shown -/
theorem fnG {P : Program} {w : World} {K : PySem.W.Frag} {mg : Str → Option Value} {base : Heap} {x qual : Str} {st : Stmt} {f : Addr} {fd : FuncData} {N ps : List Str} {k : Nat} {sp : Sp}
    (F : Fun K x qual st f fd) (S : FnScope N ps (defScope st)) (len : ∀ vs H Q E, sp vs H Q E → vs.length = ps.length)
    (body : ∀ (cdv : Value) (A : Around) (outer : List Env) (s : Shared) (H : Hp) (vs : List V) (Q : VK) (E : XK), A.guards = some [] → Room k (A.deeper (envOfC qual (defScope st) s.heap.objs.size f cdv)) → sp vs H Q E →
      ∃ t, PSs (cxOf CX0 P w K mg base N qual (defScope st) f cdv A outer s H E).nox (defBody st) t ∧ t { nx := fun _ H' => Q .non H', rt := Q } (start N vs) H) : FnG P w K mg base CX0 (k + 1) f fd ps sp := by
  obtain ⟨oc, od, kV, doc, pm, an, cdv, ct, osl, rfl, lk, hcd⟩ := F.ex
  refine ⟨len, ?_⟩
  intro A outer s H args us vs Q E hg room env0 hbind rv asked
  have many : vs.length = ps.length := len vs H Q E asked
  have inK : K.In s.heap := env0.mod.kin.keeps fun c o h => (env0.bs c o h).1
  have noL : s.heap.NoLimit := env0.mod.nolimit.keeps fun c o h => (env0.bs c o h).1
  have kinds : ∀ y ∈ ps.zip us, (defScope st).names.lookup y.1 = some .local ∨ ((defScope st).names.lookup y.1 = some .cell ∧ ((cellsFrom (s.heap.objs.size + 1) (defScope st).names []).lookup y.1).isSome = true) := by
    rintro ⟨n, v⟩ hy
    cases S.par n (List.of_mem_zip hy).1 with
    | inl q => exact Or.inl q
    | inr q => exact Or.inr ⟨q, PySem.W.cellsFrom_some _ _ _ (Or.inl q)⟩
  refine codeAny_call_function room.depth (inK _ _ lk) rfl S.co S.gen rfl (PySem.W.codeRec_of inK hcd) (hbind _ _ _ _ ?_)
  refine wpAny_newFunctionEnv_cells S.kind kinds fun env he s1 inC => ?_
  cases he
  refine ⟨noL.keeps inC.toInCall.keep, codeAny_func ?_⟩
  obtain ⟨t, tree, read⟩ := body cdv A outer s H vs Q E hg (room.deeper _) asked
  have I0 : Inv (cxOf CX0 P w K mg base N qual (defScope st) f cdv A outer s H E) [] (start N vs) H s1 := inv_start S room.hd env0 many rv inC
  refine wpAny_mono (tree.nox.run [] s1 (start N vs) H _ I0 read) (fun fl s' hs => ?_) (fun e s' hs => hs)
  cases fl with
  | next =>
    obtain ⟨τ, G, J, q⟩ := hs
    exact endG (v := V.non) (u := Value.none) J rfl q rfl rfl rfl rfl rfl rfl
  | ret u =>
    obtain ⟨v, τ, G, J, r, q⟩ := hs
    exact endG J r q rfl rfl rfl rfl rfl rfl
  | brk =>
    obtain ⟨_, _, _, q⟩ := hs
    exact q.elim
  | cont =>
    obtain ⟨_, _, _, q⟩ := hs
    exact q.elim

section
variable {X : Cx} {CX : CXT} {k : Nat} {f : Addr} {fd : FuncData} {ps : List Str} {sp : Sp} {dvs : List V} {ds : List Value} {E : XK} {x : Str} {p pos : Pos} {e : Expr} {es : List Expr} {t : TA}
theorem runG {pins : List (Addr × Obj)} {σ : L2.St} {H : Hp} {s : Shared} {Q : VK} {us : List Value} {vs : List V} (F : FnG X.prog X.w X.K X.mg X.base CX k f fd ps sp) (hg : X.A.guards = some []) (hr : Room k X.A) (hb : Binds X.K fd ps ds) (hd : Vals dvs ds) (hx : Passes CX X E)
    (I : Inv X pins σ H s) (r : Vals vs us) (h : sp (vs ++ dvs) H Q E) : wpAny (model X.prog X.w) X.A (call (.ref f) us) (EP X pins σ Q) X.xe s := by
  have rr : Vals (vs ++ dvs) (us ++ ds) := r.append hd
  have hl : (us ++ ds).length = ps.length := rr.length.symm.trans (F.len _ _ _ _ h)
  refine wpAny_call (codeAny_mono (F.go X.A X.stack s H ⟨us, []⟩ (us ++ ds) (vs ++ dvs) Q E hg hr I.env0 (hb s us I.kIn hl) rr h) (fun res s' hq => ?_))
  cases res with
  | error e => exact hx pins σ H s e s' I hq
  | ok fl =>
    cases fl with
    | ret u => exact I.after hq
    | next => exact hq.elim
    | brk => exact hq.elim
    | cont => exact hq.elim
/-- f(e, ..), f such a def -/
theorem pe_callG (F : FnG X.prog X.w X.K X.mg X.base CX k f fd ps sp) (g : X.A.guards = some []) (hr : Room k X.A) (hg : Gl X x) (hm : X.mg x = some (.ref f)) (hk : PySem.W.keepIn X.K (.ref f) = true) (hb : Binds X.K fd ps ds) (hd : Vals dvs ds) (hx : Passes CX X E)
    (ha : PA X (e :: es) t) (hdb : (x == ("__debug__" : Str)) = false := by decide) (he : starEach (e :: es) X.env = (false, eval e X.env) :: starEach es X.env := by rfl) (hpl : (backTo pos (starEach es X.env)).any (·.1) = false := by rfl) :
    PE X (.Call (.Name x p) (e :: es) [] pos) (tCall sp dvs E t) := by
  constructor
  intro pins s σ H Q I h
  apply wpAny_Call_Name_kw
  refine ld_glob I hg hm ?_ hdb
  refine PySem.W.callWith_K (h₀ := X.base) I.ok.mod.kin hk ?_ he hpl
  refine thn (ha.run pos pins s σ H _ I h) ?_
  rintro us s1 ⟨vs, H1, I1, r, q⟩
  exact ⟨I1.kIn, runG F g hr hb hd hx I1 r q⟩
end

/-! ### repr of data -/
section
variable {X : Cx}
/-- what may be shown: d is what v holds, without dicts -/
def rRepr (K : PySem.W.Frag) : List V → Hp → VK → Prop := fun xs H Q => ∃ (a : Addr) (d : PyData), xs = [.ref a] ∧ Dp K H (.ref a) d ∧ d.showable = true ∧ d.hasDict = false ∧ d.depth ≤ 40 ∧ d.shown.length ≤ sizeLine ∧ Q (.str d.shown) H
theorem call_repr (g : X.A.guards = some []) (hu : X.A.units + 64 < cLine) : CallR X (.builtin "repr") (rRepr X.K) := by
  intro pins s σ H xs us Q I r h
  obtain ⟨a, d, rfl, hd, sh, nd, dep, sz, q⟩ := h
  obtain ⟨u, rfl, ru⟩ : ∃ u, us = [u] ∧ RelV (.ref a) u := by
    cases r with
    | cons r1 r2 =>
      cases r2
      exact ⟨_, rfl, r1⟩
  obtain ⟨as, rd⟩ := Dp.reads I d _ u hd ru
  obtain rfl : u = Value.ref a := ru
  refine repr_of_reads' rd sh (fun z => by rw [nd] at z; cases z) g (by omega) (fun _ _ e => e) (fun h' u tk k => ?_) sz
  exact ⟨.str d.shown, H, I.kept k, ⟨_, rfl⟩, q⟩
end
end EvG

/-! ### the law's call where nothing is shown -/
namespace EvG
open PySem PySem.Spec PyProof.Rows L2
/-- the module's facts stay where only the script is put aside -/
theorem hidden_mod {s₁ : Shared} {K : PySem.W.Frag} {mg mb : Str → Option Value} {H : Hp} (KX : K.In s₁.heap) (hns : s₁.heap.Ns mainGlobals mg) (hb : s₁.heap.Ns builtinsNs mb) (hbb : ∀ x : Str, x ≠ "__name__" → mb x = bootBuiltins x) (hlim : s₁.heap.NoLimit)
    (free : ∀ b o, s₁.heap.get? b = some o → (∃ es ep, o.data = Data.dict es ep) → H b = none) (freeK : ∀ b o, K.lookup b = some o → H b = none) : Mod K mg (hidT s₁.heap H) := by
  have ns : ∀ (b : Addr) (m : Str → Option Value), s₁.heap.Ns b m → (hidT s₁.heap H).Ns b m := by
    rintro b m ⟨o, es, ep, e, d, r⟩
    exact ⟨o, es, ep, hidT_get e (free b o e ⟨es, ep, d⟩), d, r⟩
  refine ⟨?_, ns _ _ hns, ⟨mb, ns _ _ hb, hbb⟩, ?_⟩
  · intro b o e
    exact hidT_get (KX b o e) (freeK b o e)
  · obtain ⟨mc, h1, h2⟩ := hlim
    exact ⟨mc, ns _ _ h1, h2⟩

theorem callG {P : Program} {w : World} {K : PySem.W.Frag} {mg mb : Str → Option Value} {k : Nat} {fa a : Addr} {fd : FuncData} {x : Str} {sp : Sp} {s₁ : Shared} {vs : List Value} {ns : List Int}
    (KX : K.In s₁.heap) (hns : s₁.heap.Ns mainGlobals mg) (hb : s₁.heap.Ns builtinsNs mb) (hbb : ∀ x : Str, x ≠ "__name__" → mb x = bootBuiltins x) (hlim : s₁.heap.NoLimit) (hg : s₁.gens = #[])
    (ha : s₁.heap.get? a = some { cls := .type "list", data := .seq vs.toArray }) (hi : IntsAre vs ns) (hl : ns.length ≤ sizeLine) (hr : Room k callerA)
    (F : ∀ base : Heap, K.In base → base.Ns mainGlobals mg → FnG P w K mg base CX0 k fa fd [x] sp) (hbind : ∀ (s : Shared) (u : Value), BindsTo s fd ⟨[u], []⟩ [(x, u)])
    (hsp : ∀ H : Hp, Only H → SqL K H a (ns.map V.int) → sp [.ref a] H (fun v _ => v = .bl true) fun _ _ _ => False) :
    codeAny (model P w) callerA (.call (.ref fa) ⟨[.ref a], []⟩) (fun r s' => r = .ok (.ret (.bool true)) ∧ OldK s₁.heap s'.heap ∧ s'.os = s₁.os ∧ AllBare s'.gens) s₁ := by
  have rv := vals_ints hi
  have sizes := hi.length
  have main : ∀ H : Hp, Only H → SqL K H a (ns.map V.int) → HOk P w H s₁.heap → (∀ b o, s₁.heap.get? b = some o → (∃ es ep, o.data = Data.dict es ep) → H b = none) → (∀ b o, K.lookup b = some o → H b = none) →
      codeAny (model P w) callerA (.call (.ref fa) ⟨[.ref a], []⟩) (fun r s' => r = .ok (.ret (.bool true)) ∧ OldK s₁.heap s'.heap ∧ s'.os = s₁.os ∧ AllBare s'.gens) s₁ := by
    intro H only seq ok fr fk
    have M := hidden_mod (H := H) KX hns hb hbb hlim fr fk
    have e0 : Env0 P w K mg (hidT s₁.heap H) callerA [] s₁ H := by
      refine ⟨rfl, M, fun b o e => of_hidT e, Nat.le_of_eq (hidT_size _ _), trivial, fun b z => ?_, ok, .of_eq hg⟩
      have z' : b ∈ ([] : List Addr) := z
      cases z'
    refine codeAny_mono ((F _ M.kin M.glob).go callerA [] s₁ H ⟨[.ref a], []⟩ [.ref a] [.ref a] _ _ rfl hr e0 (hbind s₁ (.ref a)) (.cons rfl .nil) (hsp H only seq)) ?_
    intro res s' q
    cases res with
    | error e => exact q.elim
    | ok fl =>
      cases fl with
      | next => exact q.elim
      | brk => exact q.elim
      | cont => exact q.elim
      | ret u =>
        obtain ⟨v, H', os, bare, un, ok', r', hv⟩ := q
        obtain rfl : v = .bl true := hv
        obtain rfl : u = Value.bool true := r'
        refine ⟨rfl, OldK.of_keep ?_, os, bare⟩
        intro b o e
        have nin : b ∉ frs ([] : List Env) := fun z => by
          have z' : b ∈ ([] : List Addr) := z
          cases z'
        rcases only b with z | ⟨ob, xs, z⟩
        · exact un.keep b o e z nin (by simp)
        · have e1 := (ok b _ z).1
          have e2 := (ok' b _ (un.frzs b ob _ z)).1
          rw [e] at e1
          cases e1
          exact e2
  by_cases hk : ∃ o, K.lookup a = some o
  · obtain ⟨o, ho⟩ := hk
    have e := KX a o ho
    rw [ha] at e
    cases e
    refine main (fun _ => none) (fun _ => .inl rfl) (.inr ⟨_, vs.toArray, _, ho, rfl, rfl, rfl, ?_, ?_⟩) (fun b u z => ?_) (fun _ _ _ _ => rfl) (fun _ _ _ => rfl)
    · rw [List.size_toArray, sizes]
      exact hl
    · simpa using rv
    · have z' : (none : Option HO) = some u := z
      cases z'
  · have hn : K.lookup a = none := by
      cases q : K.lookup a with
      | none => rfl
      | some o => exact absurd ⟨o, q⟩ hk
    let G : Hp := fun b => if b = a then some (.frz { cls := .type "list", data := .seq vs.toArray } (.lst (ns.map V.int))) else none
    have Ga : G a = some (.frz { cls := .type "list", data := .seq vs.toArray } (.lst (ns.map V.int))) := if_pos rfl
    have Gn : ∀ b, b ≠ a → G b = none := fun b h => if_neg h
    refine main G (fun b => ?_) (.inl (.inr ⟨_, Ga⟩)) (fun b u z => ?_) (fun b o e d => ?_) (fun b o e => ?_)
    · by_cases h : b = a
      · subst h
        exact .inr ⟨_, _, Ga⟩
      · exact .inl (Gn b h)
    · by_cases h : b = a
      · subst h
        rw [Ga] at z
        cases z
        refine ⟨ha, ?_, vs, _, rv, ha⟩
        rw [List.length_map]
        exact hl
      · rw [Gn b h] at z
        cases z
    · refine Gn b fun h => ?_
      subst h
      rw [ha] at e
      cases e
      obtain ⟨es, ep, d⟩ := d
      cases d
    · refine Gn b fun h => ?_
      subst h
      rw [hn] at e
      cases e

/-- the end of a law whose def may show data -/
theorem walkG {l : PySem.W.OpenLaw} {n k : Nat} {q : Program} {loose : List Str} {XP : (Str → Option Value) → Heap → Prop} {YP : World → Heap → Prop} {d : DefRec} {K : Params → PySem.W.Frag} {sp : PySem.W.Frag → Sp} {x : Str}
    (hn : l.most = some n) (hn2 : n ≤ sizeLine) (hdf : d.params.defaults = []) (hr : Room k callerA) (hY : ∀ (w : World) (h : Heap), YP w h → (K w.params).In h)
    (F : ∀ (w : World) (mg : Str → Option Value) (fa : Addr) (h : Heap), (K w.params).In h → h.Ns mainGlobals mg → mg d.name = some (.ref fa) →
      ∃ fd : FuncData, (∀ (s : Shared) (u : Value), BindsTo s fd ⟨[u], []⟩ [(x, u)]) ∧ ∀ base : Heap, (K w.params).In base → base.Ns mainGlobals mg → FnG l.prog w (K w.params) mg base CX0 k fa fd [x] (sp (K w.params)))
    (hsp : ∀ (K : PySem.W.Frag) (H : Hp) (a : Addr) (ns : List Int), ns.length ≤ n → Only H → SqL K H a (ns.map V.int) → sp K [.ref a] H (fun v _ => v = .bl true) fun _ _ _ => False) :
    PySem.W.WalkO q loose XP YP l.row.toRowW d [] (fun f vs => PySem.call f vs) := by
  refine Att.attach_call hn hdf ?_
  intro w s₀ s₁ mg mb fa o pm cd doc a vs ns G Y ho hd hcd hmg hobj hints hlen hg
  have KX := hY w _ Y
  obtain ⟨fd, hb, hF⟩ := F w mg fa _ KX G.T.g hmg
  exact callG KX G.T.g G.T.b G.T.builtins G.T.nolimit hg hobj hints (Nat.le_trans hlen hn2) hr hF hb fun H only seq => hsp _ H a ns hlen only seq
end EvG

/-! Readings, one step a lemma; the steps are found by the head of the goal. -/
namespace EvG
open PySem PySem.Spec PyProof.Rows L2
section
variable {σ : L2.St} {H : Hp} {Q : VK} {QB : Bool → Hp → Prop} {QA : List V → Hp → Prop} {QO : Option Int → Hp → Prop} {QS : L2.St → Hp → Prop} {i : Nat} {v x y : V} {ta tb tc te : TE} {t u : TT} {tr tk : TA} {tl th : TO} {r : R2} {D : Ends} {t1 t2 ts : TS} {g : TG}
theorem g_var (h : σ[i]? = some (some v)) (q : Q v H) : tVar i σ H Q := ⟨v, h, q⟩
theorem g_c (q : Q v H) : tC v σ H Q := q
theorem g_op (h : ta σ H fun x H1 => tb σ H1 fun y H2 => r x y H2 Q) : tOp r ta tb σ H Q := h
theorem g_un {r : V → Hp → VK → Prop} (h : ta σ H fun x H1 => r x H1 Q) : tUn r ta σ H Q := h
theorem g_neg {i : Int} (h : Q (.int (-i)) H) : rU (fun i => .int (-i)) (.int i) H Q := ⟨i, rfl, h⟩
theorem g_I0 {f : Int → Int → V} {i j : Int} (q : Q (f i j) H) : rI0 f (.int i) (.int j) H Q := ⟨i, j, rfl, rfl, q⟩
theorem g_I {C : Int → Int → Prop} {f : Int → Int → V} {i j : Int} (c : C i j) (q : Q (f i j) H) : rI C f (.int i) (.int j) H Q := ⟨i, j, rfl, rfl, c, q⟩
theorem g_eq (h : scal x y = true) (q : Q (.bl (decide (x = y))) H) : rEq x y H Q := ⟨h, q⟩
theorem g_ne (h : scal x y = true) (q : Q (.bl (!decide (x = y))) H) : rNe x y H Q := ⟨h, q⟩
theorem g_test {te : TE} (h : te σ H fun x H' => ∃ k, x = .bl k ∧ QB k H') : tTest te σ H QB := h
theorem g_B {te : TE} (h : te σ H fun x H' => ∃ k, x = .bl k ∧ QB k H') : tB te σ H QB := h
theorem g_bl {k : Bool} {W : Bool → Prop} (q : W k) : ∃ k', V.bl k = .bl k' ∧ W k' := ⟨k, rfl, q⟩
theorem g_and (h : t σ H fun c H1 => if c = true then u σ H1 QB else QB false H1) : tAnd t u σ H QB := h
theorem g_or (h : t σ H fun c H1 => if c = true then QB true H1 else u σ H1 QB) : tOr t u σ H QB := h
theorem g_not (h : t σ H fun c H1 => QB (!c) H1) : tNot t σ H QB := h
theorem g_andV (h : ta σ H fun x H1 => ∃ c, x = .bl c ∧ if c = true then tb σ H1 Q else Q (.bl false) H1) : tAndV ta tb σ H Q := h
theorem g_orV (h : ta σ H fun x H1 => ∃ c, x = .bl c ∧ if c = true then Q (.bl true) H1 else tb σ H1 Q) : tOrV ta tb σ H Q := h
theorem g_notV (h : ta σ H fun x H1 => ∃ c, x = .bl c ∧ Q (.bl (!c)) H1) : tNotV ta σ H Q := h
theorem g_ifx (h : t σ H fun c H1 => if c = true then ta σ H1 Q else tb σ H1 Q) : tIf t ta tb σ H Q := h
theorem g_cons (h : te σ H fun x H1 => tr σ H1 fun xs H2 => QA (x :: xs) H2) : tCons te tr σ H QA := h
theorem g_nil (q : QA [] H) : tNil σ H QA := q
theorem g_cb {r : List V → Hp → VK → Prop} (h : tr σ H fun vs H1 => r vs H1 Q) : tCB r tr σ H Q := h
theorem g_call {sp : Sp} {dvs : List V} {E : XK} (h : tr σ H fun vs H1 => sp (vs ++ dvs) H1 Q E) : tCall sp dvs E tr σ H Q := h
theorem g_callK {sp : Sp} {gV : List V → List V → List V} {E : XK} (h : tr σ H fun vs H1 => tk σ H1 fun zs H2 => sp (gV vs zs) H2 Q E) : L2.tCallK sp gV E tr tk σ H Q := h
theorem g_tup (h : tr σ H fun xs H1 => xs.length ≤ sizeLine ∧ ∀ p, H1 p = none → Q (.ref p) (upd H1 p (.tup xs))) : tTup tr σ H Q := h
theorem g_lst (h : tr σ H fun xs H1 => xs.length ≤ sizeLine ∧ ∀ p, H1 p = none → Q (.ref p) (upd H1 p (.lst xs))) : tLst tr σ H Q := h
theorem g_sl {r : V → Option Int → Option Int → Hp → VK → Prop} (h : te σ H fun x H1 => tl σ H1 fun l H2 => th σ H2 fun u H3 => r x l u H3 Q) : tSl r te tl th σ H Q := h
theorem g_part (h : te σ H fun x H1 => ∃ i, x = .int i ∧ QO (some i) H1) : tPart te σ H QO := h
theorem g_nopart (q : QO none H) : tNoPart σ H QO := q
theorem g_seq (h : t1 { D with nx := t2 D } σ H) : tSeq t1 t2 D σ H := h
theorem g_next (q : D.nx σ H) : tNext D σ H := q
theorem g_asg (h : te σ H fun x H1 => g x σ H1 D.nx) : tAsg te g D σ H := h
theorem g_name (q : QS (σ.set i (some v)) H) : gName i v σ H QS := q
theorem g_sub {to ti : TE} {t : TSet} (h : to σ H fun o H1 => ti σ H1 fun i H2 => t o i v H2 fun H3 => QS σ H3) : gSub to ti t v σ H QS := h
theorem g_ret (h : te σ H D.rt) : tRet te D σ H := h
theorem g_retN (h : D.rt .non H) : tRetN D σ H := h
theorem g_drop (h : te σ H fun _ H1 => D.nx σ H1) : tDrop te D σ H := h
theorem g_ifs {c : TT} (h : c σ H fun b H1 => if b = true then t1 D σ H1 else t2 D σ H1) : tIfS c t1 t2 D σ H := h
theorem g_yes (q : QB true H) : tYes σ H QB := q
theorem g_m0 {r : V → List V → Hp → VK → Prop} {K : PySem.W.Frag} {T : String} (h : te σ H fun x H1 => tyV K T x H1 ∧ r x [] H1 Q) : tBM0 K T r te σ H Q := h
/-- items of lists and tuples that stand -/
theorem g_ixL {K : PySem.W.Frag} {p : Addr} {xs : List V} {i : Int} (h : SqL K H p xs) (ha : atI xs i = some v) (q : Q v H) : rIxL K (.ref p) (.int i) H Q := ⟨p, xs, i, v, rfl, rfl, h, ha, q⟩
theorem g_ixT {K : PySem.W.Frag} {p : Addr} {xs : List V} {i : Int} (h : SqT K H p xs) (ha : atI xs i = some v) (q : Q v H) : rIxT K (.ref p) (.int i) H Q := ⟨p, xs, i, v, rfl, rfl, h, ha, q⟩
theorem g_ixS {z : Str} {i : Int} {c : Nat} (h : z.length ≤ sizeLine) (ha : atI z.cps.toList i = some c) (q : Q (.str ⟨#[c]⟩) H) : rIxS (.str z) (.int i) H Q := ⟨z, i, c, rfl, rfl, h, ha, q⟩
theorem g_setL {p : Addr} {xs : List V} {k : Int} {j : Nat} {QH : Hp → Prop} (h : H p = some (.lst xs)) (hj : ixN xs.length k = some j) (q : QH (upd H p (.lst (xs.set j v)))) : rSetL (.ref p) (.int k) v H QH := ⟨p, xs, k, j, rfl, rfl, h, hj, q⟩
theorem g_true {A B : Prop} {b : Bool} (h : b = true) (q : A) : if b = true then A else B := by
  rw [if_pos h]
  exact q
theorem g_false {A B : Prop} {b : Bool} (h : b = false) (q : B) : if b = true then A else B := by
  rw [if_neg (by rw [h]; exact Bool.false_ne_true)]
  exact q
theorem g_rng1 {ta : TA} {R : It → Hp → Prop} (h : ta σ H fun vs H1 => ∃ j : Int, vs = [.int j] ∧ -(2 ^ 62) ≤ j ∧ j < 2 ^ 62 ∧ R (Itr 0 j.toNat) H1) : iRng1 ta σ H R := h
end
/-- the heap's lookups -/
theorem look_same {H : Hp} {a b : Addr} {o u : HO} (h : a = b) (e : o = u) : upd H b o a = some u := by
  subst h
  subst e
  exact upd_same
theorem look_past {H : Hp} {a b : Addr} {o u : HO} (n : a ≠ b) (h : H a = some u) : upd H b o a = some u := by
  rw [upd_ne n]
  exact h
theorem gone_past {H : Hp} {a b : Addr} {o : HO} (h : upd H b o a = none) : a ≠ b ∧ H a = none := by
  by_cases e : a = b
  · subst e
    rw [upd_same] at h
    cases h
  · rw [upd_ne e] at h
    exact ⟨e, h⟩

/-! ### calls of built-in names, by their values -/
section
variable {X : Cx} {H : Hp} {Q : VK} {i : Int} {K : PySem.W.Frag}
def rIntI : List V → Hp → VK → Prop := fun xs H Q => ∃ i, xs = [.int i] ∧ Q (.int i) H
def rIntB : List V → Hp → VK → Prop := fun xs H Q => ∃ k, xs = [.bl k] ∧ Q (.int (if k then 1 else 0)) H
def rAbs : List V → Hp → VK → Prop := fun xs H Q => ∃ i, xs = [.int i] ∧ Q (.int (if i < 0 then -i else i)) H
def rLenL (K : PySem.W.Frag) : List V → Hp → VK → Prop := fun xs H Q => ∃ p ys, xs = [.ref p] ∧ (SqL K H p ys ∨ SqT K H p ys) ∧ Q (.int ys.length) H
def rLenS : List V → Hp → VK → Prop := fun xs H Q => ∃ z, xs = [.str z] ∧ z.length ≤ sizeLine ∧ Q (.int z.length) H
def rListL (K : PySem.W.Frag) : List V → Hp → VK → Prop := fun xs H Q => ∃ p ys, xs = [.ref p] ∧ (SqL K H p ys ∨ SqT K H p ys) ∧ ∀ l, H l = none → Q (.ref l) (upd H l (.lst ys))
def rStrI : List V → Hp → VK → Prop := fun xs H Q => ∃ i, xs = [.int i] ∧ i.natAbs.log2 < 1920 ∧ Q (.str (toString i)) H
theorem call_intI : CallR X (.type "int") rIntI := fun pins s σ H xs us Q I r h => call_int1 pins s σ H xs us Q I r (.inl h)
theorem call_intB : CallR X (.type "int") rIntB := fun pins s σ H xs us Q I r h => call_int1 pins s σ H xs us Q I r (.inr h)
theorem call_absI : CallR X (.builtin "abs") rAbs := call_abs
theorem call_lenL : CallR X (.builtin "len") (rLenL X.K) := call_len_seq
theorem call_lenS : CallR X (.builtin "len") rLenS := call_len_str
theorem call_listL : CallR X (.type "list") (rListL X.K) := call_list_of
theorem call_strI : CallR X (.type "str") rStrI := call_str_int
theorem g_intI (q : Q (.int i) H) : rIntI [.int i] H Q := ⟨i, rfl, q⟩
theorem g_intB {k : Bool} (q : Q (.int (if k then 1 else 0)) H) : rIntB [.bl k] H Q := ⟨k, rfl, q⟩
theorem g_abs (q : Q (.int (if i < 0 then -i else i)) H) : rAbs [.int i] H Q := ⟨i, rfl, q⟩
theorem g_lenL {p : Addr} {ys : List V} (h : SqL K H p ys) (q : Q (.int ys.length) H) : rLenL K [.ref p] H Q := ⟨p, ys, rfl, .inl h, q⟩
theorem g_lenT {p : Addr} {ys : List V} (h : SqT K H p ys) (q : Q (.int ys.length) H) : rLenL K [.ref p] H Q := ⟨p, ys, rfl, .inr h, q⟩
theorem g_lenS {z : Str} (h : z.length ≤ sizeLine) (q : Q (.int z.length) H) : rLenS [.str z] H Q := ⟨z, rfl, h, q⟩
theorem g_listL {p : Addr} {ys : List V} (h : SqL K H p ys) (q : ∀ l, H l = none → Q (.ref l) (upd H l (.lst ys))) : rListL K [.ref p] H Q := ⟨p, ys, rfl, .inl h, q⟩
theorem g_strI (h : i.natAbs.log2 < 1920) (q : Q (.str (toString i)) H) : rStrI [.int i] H Q := ⟨i, rfl, h, q⟩
theorem g_eqD {x y : V} {d e : PyData} (hd : Dp K H x d) (he : Dp K H y e) (sd : SeqAt.shaped d = true) (se : SeqAt.shaped e = true) (q : Q (.bl (PyData.eqv d e)) H) : rEqD K x y H Q := ⟨d, e, hd, he, sd, se, q⟩
theorem g_neD {x y : V} {d e : PyData} (hd : Dp K H x d) (he : Dp K H y e) (sd : SeqAt.shaped d = true) (se : SeqAt.shaped e = true) (q : Q (.bl (!PyData.eqv d e)) H) : rNeD K x y H Q := ⟨d, e, hd, he, sd, se, q⟩
theorem g_slL {p : Addr} {xs : List V} {lo hi : Option Int} (h : SqL K H p xs) (q : ∀ r, H r = none → Q (.ref r) (upd H r (.lst (cutV xs lo hi)))) : rSlL K (.ref p) lo hi H Q := ⟨p, xs, rfl, h, q⟩
theorem g_slS {z : Str} {lo hi : Option Int} (h : z.length ≤ sizeLine) (q : Q (.str (cutS z lo hi)) H) : rSlS (.str z) lo hi H Q := ⟨z, rfl, h, q⟩
theorem g_rep {l : Addr} {k : Int} {xs : List V} (h : H l = some (.lst xs)) (k0 : -(2 ^ 63) ≤ k) (k1 : k < 2 ^ 63) (z : xs.length * k.toNat ≤ sizeLine) (q : ∀ p, H p = none → Q (.ref p) (upd H p (.lst (List.replicate k.toNat xs).flatten))) : rRep (.ref l) (.int k) H Q :=
  ⟨l, k, xs, rfl, rfl, h, k0, k1, z, q⟩
theorem g_cat {l b : Addr} {xs zs : List V} (h : H l = some (.lst xs)) (h2 : H b = some (.lst zs)) (z : xs.length + zs.length ≤ sizeLine) (q : ∀ p, H p = none → Q (.ref p) (upd H p (.lst (xs ++ zs)))) : rCat (.ref l) (.ref b) H Q :=
  ⟨l, b, xs, zs, rfl, rfl, h, h2, z, q⟩
theorem g_part1 {W : Int → Prop} {i : Int} (q : W i) : ∃ j, V.int i = .int j ∧ W j := ⟨i, rfl, q⟩
theorem g_rng {W : Int → Prop} {i : Int} (h0 : -(2 ^ 62) ≤ i) (h1 : i < 2 ^ 62) (q : W i) : ∃ j : Int, [V.int i] = [.int j] ∧ -(2 ^ 62) ≤ j ∧ j < 2 ^ 62 ∧ W j := ⟨i, rfl, h0, h1, q⟩
end
/-! ### int lists as data -/
theorem dp_ints {K : PySem.W.Frag} {H : Hp} : ∀ ns : List Int, DpAll K H (ns.map V.int) (ns.map PyData.int)
  | [] => .nil
  | n :: r => .cons (.int n) (dp_ints r)
theorem canInts : ∀ ns : List Int, PyData.canLayAll0 (ns.map PyData.int) = true
  | [] => by simp [PyData.canLayAll0]
  | n :: r => by
    show PyData.canLayAll0 (PyData.int n :: r.map PyData.int) = true
    simp only [PyData.canLayAll0, PyData.canLay0, canInts r, Bool.and_self]
theorem depthInts : ∀ ns : List Int, PyData.depthAll (ns.map PyData.int) ≤ 1
  | [] => by simp [PyData.depthAll]
  | n :: r => by
    show PyData.depthAll (PyData.int n :: r.map PyData.int) ≤ 1
    have ih := depthInts r
    simp only [PyData.depthAll, PyData.depth]
    omega
theorem shapedInts (ns : List Int) : SeqAt.shaped (.list (ns.map PyData.int)) = true := by
  have d := depthInts ns
  have h1 : PyData.canLay0 (.list (ns.map PyData.int)) = true := by
    simp only [PyData.canLay0]
    exact canInts ns
  have h2 : PyData.depth (.list (ns.map PyData.int)) ≤ 64 := by
    simp only [PyData.depth]
    omega
  unfold SeqAt.shaped
  rw [h1, Bool.true_and]
  exact decide_eq_true h2
theorem eqvInts0 (ns : List Int) : PyData.eqv (.list (ns.map PyData.int)) (.list []) = decide (ns = []) := by
  cases ns with
  | nil => simp [PyData.eqv, PyData.eqvAll]
  | cons a r => simp [PyData.eqv, PyData.eqvAll]

/-- the rest by what holds ahead of it -/
theorem g_cut {t u : TS} {D : Ends} {σ : L2.St} {H : Hp} (W : L2.St → Hp → Prop) (hu : ∀ σ' H', W σ' H' → u D σ' H') (ht : ∀ R : L2.St → Hp → Prop, (∀ σ' H', W σ' H' → R σ' H') → t { D with nx := R } σ H) : tSeq t u D σ H := ht (u D) hu
theorem g_new {n : Nat} {W : Prop} (h : n ≤ sizeLine) (w : W) : n ≤ sizeLine ∧ W := ⟨h, w⟩
theorem g_rt {nx bk ct : L2.St → Hp → Prop} {rt : VK} {v : V} {H : Hp} (h : rt v H) : Ends.rt { nx := nx, rt := rt, bk := bk, ct := ct } v H := h
theorem g_nx {nx bk ct : L2.St → Hp → Prop} {rt : VK} {σ : L2.St} {H : Hp} (h : nx σ H) : Ends.nx { nx := nx, rt := rt, bk := bk, ct := ct } σ H := h
theorem small_of {n : Nat} (h : n ≤ 1000000) : n ≤ sizeLine := Nat.le_trans h (by decide)

/-- a rest by a written number, its value forgotten -/
theorem g_modC {i j : Int} {H : Hp} {Q : VK} (hj : 0 < j) (q : ∀ x : Int, 0 ≤ x → x < j → Q (.int x) H) : rI (fun _ j => 0 < j) (fun i j => .int (i % j)) (.int i) (.int j) H Q :=
  ⟨i, j, rfl, rfl, hj, q _ (Int.emod_nonneg i (by omega)) (Int.emod_lt_of_pos i hj)⟩
theorem pow3_ok {x z a c e : Int} (x0 : 0 ≤ x) (x1 : x < 2147483648) (z0 : 0 ≤ z) (z1 : z ≤ 100000) (a0 : 0 ≤ a) (a1 : a ≤ 1000) (c0 : 0 ≤ c) (c1 : c ≤ 1000000) (e0 : 0 ≤ e) (e1 : e ≤ 1000) : CPow (x * (2 * z + a) + c * z * z + e) 3 := by
  have h1 : x * (2 * z + a) ≤ 2147483648 * (2 * z + a) := Int.mul_le_mul_of_nonneg_right (by omega) (by omega)
  have h2 : 0 ≤ x * (2 * z + a) := Int.mul_nonneg x0 (by omega)
  have h3 : c * z ≤ 1000000 * z := Int.mul_le_mul_of_nonneg_right c1 z0
  have h4 : 0 ≤ c * z := Int.mul_nonneg c0 z0
  have h5 : c * z * z ≤ (1000000 * 100000) * z := Int.mul_le_mul_of_nonneg_right (by omega) z0
  have h6 : 0 ≤ c * z * z := Int.mul_nonneg h4 z0
  exact ⟨by decide, by decide, by omega⟩
theorem abs_ge {i n : Int} (h : n ≤ (if i < 0 then -i else i)) (m : Int) (hm : m = if i < 0 then -i else i) : n ≤ m := by
  rw [hm]
  exact h

section
variable {X : Cx} {H : Hp} {Q : VK} {K : PySem.W.Frag} {σ : L2.St}
/-- isinstance by a written class -/
theorem g_isi {x : V} {n c : String} {b : Bool} (ty : TyX K H x (.type n)) (h : kitB n c = some b) (q : Q (.bl b) H) : rIsi K [x, .ty c] H Q := ⟨x, .ty c, .type n, .type c, b, rfl, .ty c, ty, kit_ty h, q⟩
theorem g_notInS {c : Nat} {z : Str} (q : Q (.bl (!decide (c ∈ z.cps.toList))) H) : rNotInS (.str ⟨#[c]⟩) (.str z) H Q := ⟨c, z, rfl, rfl, q⟩
theorem g_inS {c : Nat} {z : Str} (q : Q (.bl (decide (c ∈ z.cps.toList))) H) : rInS (.str ⟨#[c]⟩) (.str z) H Q := ⟨c, z, rfl, rfl, q⟩
def rTxtB (f : Str → Bool) : V → List V → Hp → VK → Prop := fun x xs H Q => ∃ a, x = .str a ∧ xs = [] ∧ True ∧ Q (.bl (f a)) H
theorem mt_isasciiB : MtR X "str.isascii" (rTxtB Txt.isascii) := mt_isascii
theorem mt_islowerB : MtR X "str.islower" (rTxtB Txt.islower) := mt_islower
theorem mt_isalphaB : MtR X "str.isalpha" (rTxtB Txt.isalpha) := mt_isalpha
theorem g_txtB {f : Str → Bool} {a : Str} (q : Q (.bl (f a)) H) : rTxtB f (.str a) [] H Q := ⟨a, rfl, rfl, trivial, q⟩
theorem g_tyS {a : Str} {W : Prop} (w : W) : tyV K "str" (.str a) H ∧ W := ⟨rfl, w⟩
theorem g_chain {r r' : R2} {ta tb tc : TE} (h : ta σ H fun x H1 => tb σ H1 fun y H2 => r x y H2 fun z H3 => ∃ k, z = .bl k ∧ (if k = true then tc σ H3 fun w' H4 => r' y w' H4 Q else Q (.bl false) H3)) : tChain r r' ta tb tc σ H Q := h
theorem op_addS : OpR X (binaryOp .Add) rAddS := op_add_str
theorem g_addS {a b : Str} (h : a.length + b.length ≤ sizeLine) (q : Q (.str (a ++ b)) H) : rAddS (.str a) (.str b) H Q := ⟨a, b, rfl, rfl, h, q⟩
end

section
variable {H : Hp} {Q : VK} {K : PySem.W.Frag} {σ : L2.St}
def rJoin (K : PySem.W.Frag) : V → List V → Hp → VK → Prop := fun x xs H Q => ∃ a p, ∃ ys : List Str, x = .str a ∧ xs = [.ref p] ∧ (SqL K H p (ys.map V.str) ∨ SqT K H p (ys.map V.str)) ∧ (ys.map (·.length)).sum + ys.length * a.length ≤ 16777216 ∧ Q (.str (Txt.join a ys)) H
theorem pe_joinJ {X : Cx} {o e : Expr} {to te : TE} {apos pos : Pos} (ho : PE X o to) (he : PE X e te) (hs : starEach [e] X.env = [(false, eval e X.env)] := by rfl) (hbase : attributeBase o "join" X.env (eval o X.env) = eval o X.env := by rfl) (hline : (apos.endLine == pos.line) = true := by rfl) :
    PE X (.Call (.Attribute o "join" apos) [e] [] pos) (tM1 (rJoin X.K) to te) := pe_join ho he hs hbase hline
theorem g_m1 {r : V → List V → Hp → VK → Prop} {to te : TE} (h : to σ H fun x H1 => (∃ a, x = .str a) ∧ te σ H1 fun y H2 => r x [y] H2 Q) : tM1 r to te σ H Q := h
theorem g_isStr {a : Str} {W : Prop} (w : W) : (∃ b, V.str a = .str b) ∧ W := ⟨⟨a, rfl⟩, w⟩
theorem g_join {a : Str} {p : Addr} {ys : List Str} (h : SqL K H p (ys.map V.str)) (z : (ys.map (·.length)).sum + ys.length * a.length ≤ 16777216) (q : Q (.str (Txt.join a ys)) H) : rJoin K (.str a) [.ref p] H Q := ⟨a, p, ys, rfl, rfl, .inl h, z, q⟩
end
theorem join_signs (l : List Nat) : Txt.join (Str.ofString "") (l.map fun c => (⟨#[c]⟩ : Str)) = ⟨l.toArray⟩ := by
  have e : TL.tl (Txt.join (Str.ofString "") (l.map fun c => (⟨#[c]⟩ : Str))) = l := by
    rw [TL.join_eq, TL.tl_join]
    have z : TL.tl (Str.ofString "") = [] := by decide +kernel
    rw [z, List.map_map]
    have flat : ∀ l : List (List Nat), TL.joinL [] l = l.flatten := by
      intro l
      induction l with
      | nil => rfl
      | cons p r ih =>
        cases r with
        | nil =>
          show p = _
          simp
        | cons q r =>
          show p ++ ([] ++ TL.joinL [] (q :: r)) = _
          rw [List.nil_append, ih]
          rfl
    rw [flat]
    induction l with
    | nil => rfl
    | cons c r ih =>
      rw [List.map_cons, List.flatten_cons, ih]
      rfl
  refine TL.ext_tl ?_
  rw [e]

/-! ### loops and comprehensions: what is left behind the walked thing -/
def FOR (J : It) (g : TG) (tb : TS) (D : Ends) (σ : L2.St) (H1 : Hp) : Prop := ∃ W : Nat → Nat → L2.St → Hp → Prop, (∃ m, W 0 m σ H1) ∧ ∀ i m σ H, W i m σ H →
  (J.stop i H ∧ D.nx σ H) ∨ (J.go i H ∧ ∃ N : L2.St → Hp → Prop, (∀ σ' H', N σ' H' → ∃ m', m' < m ∧ W (i + 1) m' σ' H') ∧ ∀ x H', J.yld i H x H' → g x σ H' fun σ2 H2 => tb { D with nx := N, ct := N, bk := D.nx } σ2 H2)
theorem g_for {wi : TI} {g : TG} {tb : TS} {D : Ends} {σ : L2.St} {H : Hp} (h : wi σ H fun J H1 => FOR J g tb D σ H1) : tFor wi g tb D σ H := h
def LCF (J : It) (g : TG) (tt : TT) (te : TE) (vs : List Nat) (σ : L2.St) (H1 : Hp) (D : Addr) (Q : VK) : Prop := ∃ W : Nat → Nat → Hp → Prop, (∃ m, W 0 m (upd H1 D (.lst []))) ∧ ∀ i m H, W i m H →
  (J.stop i H ∧ Q (.ref D) H) ∨ (J.go i H ∧ ∃ Nx : Hp → Prop, (∀ H', Nx H' → ∃ m', m' < m ∧ W (i + 1) m' H') ∧ ∀ x H', J.yld i H x H' → g x (wipe σ vs) H' fun σ2 H2 => wipe σ2 vs = wipe σ vs ∧ tt σ2 H2 fun b H3 =>
    if b = true then te σ2 H3 fun y H4 => ∃ acc, H4 D = some (.lst acc) ∧ acc.length < sizeLine ∧ Nx (upd H4 D (.lst (acc ++ [y]))) else Nx H3)
theorem g_lc {wi : TI} {g : TG} {tt : TT} {te : TE} {vs : List Nat} {σ : L2.St} {H : Hp} {Q : VK} (h : wi σ H fun J H1 => ∀ D, H1 D = none → LCF J g tt te vs σ H1 D Q) : tLc wi g tt te vs σ H Q := h
theorem g_iL {K : PySem.W.Frag} {tl : TE} {σ : L2.St} {H : Hp} {R : It → Hp → Prop} (h : tl σ H fun x H1 => ∃ a, x = .ref a ∧ (∃ xs, SqL K H1 a xs) ∧ R (Itl K a) H1) : iList K tl σ H R := h
theorem g_iT {K : PySem.W.Frag} {tl : TE} {σ : L2.St} {H : Hp} {R : It → Hp → Prop} (h : tl σ H fun x H1 => ∃ a, x = .ref a ∧ (∃ xs, SqT K H1 a xs) ∧ R (Itt K a) H1) : iTup K tl σ H R := h
theorem g_iS {te : TE} {σ : L2.St} {H : Hp} {R : It → Hp → Prop} (h : te σ H fun v H1 => ∃ x, v = .str x ∧ R (Its x) H1) : iStr te σ H R := h
theorem g_atL {K : PySem.W.Frag} {a : Addr} {xs : List V} {H : Hp} {W : Addr → Prop} (h : SqL K H a xs) (w : W a) : ∃ b, V.ref a = .ref b ∧ (∃ xs, SqL K H b xs) ∧ W b := ⟨a, rfl, ⟨xs, h⟩, w⟩
theorem g_atT {K : PySem.W.Frag} {a : Addr} {xs : List V} {H : Hp} {W : Addr → Prop} (h : SqT K H a xs) (w : W a) : ∃ b, V.ref a = .ref b ∧ (∃ xs, SqT K H b xs) ∧ W b := ⟨a, rfl, ⟨xs, h⟩, w⟩
theorem g_atS {z : Str} {W : Str → Prop} (w : W z) : ∃ x, V.str z = .str x ∧ W x := ⟨z, rfl, w⟩

/-! ### a call by keywords alone -/
section
variable {X : Cx} {CX : CXT} {k : Nat} {f : Addr} {fd : FuncData} {ps ks : List Str} {sp : Sp} {E : XK} {x : Str} {p pos : Pos} {kws : List Keyword} {tk : TA} {g : List Value → List Value → List Value} {gV : List V → List V → List V}
theorem pe_callK0 (F : FnOk X.prog X.w X.K X.mg X.base CX k f fd ps sp) (hr : Room k X.A) (hg : Gl X x) (hm : X.mg x = some (.ref f)) (hk : PySem.W.keepIn X.K (.ref f) = true) (hb : KBinds X.K fd ps ks g gV) (hx : Passes CX X E)
    (hkw : PK X kws tk) (hall : (backToKw pos (keywordEach kws X.env)).all (·.1.isSome) = true := by rfl) (hks : (backToKw pos (keywordEach kws X.env)).filterMap (·.1) = ks := by rfl)
    (hdb : (x == ("__debug__" : Str)) = false := by decide) (hpl : ((backTo pos (starEach [] X.env)).any (·.1) || (backToKw pos (keywordEach kws X.env)).any (·.1.isNone)) = false := by rfl) :
    PE X (.Call (.Name x p) [] kws pos) (L2.tCallK sp gV E tNil tk) := by
  constructor
  intro pins s σ H Q I h
  apply wpAny_Call_Name_kw
  refine ld_glob I hg hm ?_ hdb
  refine PySem.W.callWith_KW0 (h₀ := X.base) I.ok.mod.kin hk hall ?_ hpl
  refine thn (hkw.run pos pins s σ H _ I h) ?_
  rintro ws s2 ⟨zs, H2, I2, rz, q2⟩
  refine ⟨I2.kIn, ?_⟩
  rw [hks]
  exact run_fnk F hr hb hx I2 .nil rz q2
end
/-- one parameter, handed over by its name -/
theorem kb_one {K : PySem.W.Frag} {x qual a : Str} {st : Stmt} {f : Addr} {fd : FuncData} (F : Fun K x qual st f fd)
    (h0 : ∀ (kV doc pm : Value) (an : Option Addr) (cdv ct u : Value), bindArgs (PySem.W.fnOf x qual (defArgs st) (defBody st) (defScope st) .none kV doc pm an cdv ct) ⟨[u], []⟩ = pure [(a, u)])
    (h1 : ∀ (kV doc pm : Value) (an : Option Addr) (cdv ct u : Value), bindArgs (PySem.W.fnOf x qual (defArgs st) (defBody st) (defScope st) .none kV doc pm an cdv ct) ⟨[], [(a, u)]⟩ = pure [(a, u)]) :
    KBinds K fd [a] [a] (fun us ws => us ++ ws) (fun vs zs => vs ++ zs) := by
  obtain ⟨oc, od, kV, doc, pm, an, cdv, ct, osl, rfl, lk, hcd⟩ := F.ex
  refine ⟨fun s us ws _ hl => ?_, fun r q => r.append q⟩
  match us, ws, hl with
  | [u], [], _ => exact .of_eq (h0 kV doc pm an cdv ct u)
  | [], [u], _ => exact .of_eq (h1 kV doc pm an cdv ct u)
theorem g_repr {K : PySem.W.Frag} {H : Hp} {Q : VK} {a : Addr} (d : PyData) (hd : Dp K H (.ref a) d) (sh : d.showable = true ∧ d.hasDict = false ∧ d.depth ≤ 40 ∧ d.shown.length ≤ sizeLine) (q : Q (.str d.shown) H) : rRepr K [.ref a] H Q :=
  ⟨a, d, rfl, hd, sh.1, sh.2.1, sh.2.2.1, sh.2.2.2, q⟩
theorem g_dnew {σ : L2.St} {H : Hp} {Q : VK} (q : ∀ d, H d = none → Q (.ref d) (upd H d (.dK []))) : tDNewK σ H Q := q
theorem g_disp1 {σ : L2.St} {H : Hp} {Q : VK} {tk tv : TE} (q : ∀ p, H p = none → tk σ (upd H p (.dK [])) fun x H1 => tv σ H1 fun y H2 => H2 p = some (.dK []) ∧ ∃ kvs : List (Key × V), [(x, y)] = kvs.map (fun kv => (kV kv.1, kv.2)) ∧ kvs.length ≤ 15 ∧ Q (.ref p) (upd H2 p (.dK (mergeK [] kvs)))) : tDisp [(tk, tv)] σ H Q := q
theorem g_pair1 {A : Prop} {W : List (Key × V) → Prop} {x y : V} (k : Key) (e : x = kV k) (h : A) (q : W [(k, y)]) : A ∧ ∃ kvs : List (Key × V), [(x, y)] = kvs.map (fun kv => (kV kv.1, kv.2)) ∧ kvs.length ≤ 15 ∧ W kvs :=
  ⟨h, [(k, y)], by rw [e]; rfl, by (show 1 ≤ 15); decide, q⟩
end EvG

namespace K2
open PySem PySem.Spec PyProof.Rows L2 EvG
def top (i : Nat) : Stmt := PySem.Challenge.pw_evenends_k02_names_and_integers_known.main.body.getD i (.Pass ⟨0, 0, 0, 0⟩)
abbrev s_law_pen : Stmt := (top 4)
abbrev N_law_pen : List Str := ["_law_script"]
theorem sc_law_pen : FnScope N_law_pen ["_law_script"] (defScope s_law_pen) := ⟨rfl, rfl, rfl, by decide +kernel, rfl, by decide +kernel, by decide +kernel⟩
abbrev s_law_draw : Stmt := (top 5)
abbrev N_law_draw : List Str := ["_law_pen_here", "_law_many", "_law_digit", "_law_at", "_law_cell", "_law_great_here", "_law_mixed"]
theorem sc_law_draw : FnScope N_law_draw ["_law_pen_here", "_law_many"] (defScope s_law_draw) := ⟨rfl, rfl, rfl, by decide +kernel, rfl, by decide +kernel, by decide +kernel⟩
abbrev s_law_pick : Stmt := (top 6)
abbrev N_law_pick : List Str := ["_law_pen_here", "_law_some"]
theorem sc_law_pick : FnScope N_law_pick ["_law_pen_here", "_law_some"] (defScope s_law_pick) := ⟨rfl, rfl, rfl, by decide +kernel, rfl, by decide +kernel, by decide +kernel⟩
abbrev s_law_word : Stmt := (top 7)
abbrev N_law_word : List Str := ["_law_pen_here", "_law_letters", "_law_many", "_law_k"]
theorem sc_law_word : FnScope N_law_word ["_law_pen_here"] (defScope s_law_word) := ⟨rfl, rfl, rfl, by decide +kernel, rfl, by decide +kernel, by decide +kernel⟩
abbrev s_law_bent : Stmt := (top 8)
abbrev N_law_bent : List Str := ["_law_pen_here", "_law_word_here", "_law_at", "_law_sign"]
theorem sc_law_bent : FnScope N_law_bent ["_law_pen_here", "_law_word_here"] (defScope s_law_bent) := ⟨rfl, rfl, rfl, by decide +kernel, rfl, by decide +kernel, by decide +kernel⟩
abbrev s_law_is_word : Stmt := (top 9)
abbrev N_law_is_word : List Str := ["_law_thing", "_law_sign"]
theorem sc_law_is_word : FnScope N_law_is_word ["_law_thing"] (defScope s_law_is_word) := ⟨rfl, rfl, rfl, by decide +kernel, rfl, by decide +kernel, by decide +kernel⟩
abbrev s_law_is_whole : Stmt := (top 10)
abbrev N_law_is_whole : List Str := ["_law_thing"]
theorem sc_law_is_whole : FnScope N_law_is_whole ["_law_thing"] (defScope s_law_is_whole) := ⟨rfl, rfl, rfl, by decide +kernel, rfl, by decide +kernel, by decide +kernel⟩
abbrev s_law_great : Stmt := (top 11)
abbrev N_law_great : List Str := ["_law_pen_here", "_law_most", "_law_found", "_law_turn"]
theorem sc_law_great : FnScope N_law_great ["_law_pen_here", "_law_most"] (defScope s_law_great) := ⟨rfl, rfl, rfl, by decide +kernel, rfl, by decide +kernel, by decide +kernel⟩
abbrev s_is_name : Stmt := (top 1)
abbrev N_is_name : List Str := ["value"]
theorem sc_is_name : FnScope N_is_name ["value"] (defScope s_is_name) := ⟨rfl, rfl, rfl, by decide +kernel, rfl, by decide +kernel, by decide +kernel⟩
abbrev s_is_integer : Stmt := (top 2)
abbrev N_is_integer : List Str := ["value"]
theorem sc_is_integer : FnScope N_is_integer ["value"] (defScope s_is_integer) := ⟨rfl, rfl, rfl, by decide +kernel, rfl, by decide +kernel, by decide +kernel⟩
abbrev s_law : Stmt := (top 12)
abbrev N_law : List Str := ["_law_script", "_law_pen_here", "_law_turn", "_law_great_here", "_law_odd", "_law_word_here", "_law_thing", "_law_few"]
theorem sc_law : FnScope N_law ["_law_script"] (defScope s_law) := ⟨rfl, rfl, rfl, by decide +kernel, rfl, by decide +kernel, by decide +kernel⟩

local macro_rules
  | `(tactic| walk_at "hlook") => `(tactic| first
    | assumption
    | exact upd_same
    | (refine' look_past ?h1 ?h2; (case h1 => walk_at "hne"); (case h2 => walk_at "hlook")))
local macro_rules
  | `(tactic| walk_at "hne") => `(tactic| first
    | assumption
    | exact Ne.symm (by assumption)
    | (refine' ne_of_none ?h1 ?h2; (case h2 => assumption); (case h1 => walk_at "hlook")))
local macro_rules
  | `(tactic| walk_at "hside") => `(tactic| first
    | exact Or.inl ⟨by decide, by decide⟩
    | exact Or.inr ⟨by decide, by decide⟩
    | exact Or.inl ⟨by omega, by omega⟩
    | exact Or.inr ⟨by omega, by omega⟩
    | (show (0 : Int) < _; first | decide | omega)
    | (show _ ≠ (0 : Int); first | decide | omega)
    | exact ⟨by decide, by decide⟩
    | exact ⟨by omega, by omega⟩
    | exact ⟨by decide, by decide, by decide⟩
    | exact ⟨by decide, by decide, by omega⟩
    | (refine pow3_ok ?_ ?_ ?_ ?_ ?_ ?_ ?_ ?_ ?_ ?_ <;> omega))
local macro_rules
  | `(tactic| walk_at "hs") => `(tactic| first
    | with_reducible refine g_rt ?_
    | with_reducible refine g_nx ?_
    | ((with_reducible refine' g_var ?h1 ?h2); (case h1 => rfl))
    | with_reducible refine g_c ?_
    | with_reducible refine g_op ?_
    | with_reducible refine g_cons ?_
    | with_reducible refine g_nil ?_
    | with_reducible refine g_cb ?_
    | with_reducible refine g_I0 ?_
    | with_reducible refine g_asg ?_
    | with_reducible refine g_name ?_
    | with_reducible refine g_ret ?_
    | with_reducible refine g_retN ?_
    | with_reducible refine g_next ?_
    | with_reducible refine g_ifs ?_
    | with_reducible refine g_test ?_
    | with_reducible refine g_B ?_
    | with_reducible refine g_bl ?_
    | with_reducible refine g_un ?_
    | with_reducible refine g_neg ?_
    | with_reducible refine g_intI ?_
    | with_reducible refine g_intB ?_
    | with_reducible refine g_abs ?_
    | with_reducible refine g_call ?_
    | with_reducible refine g_callK ?_
    | with_reducible refine g_and ?_
    | with_reducible refine g_or ?_
    | with_reducible refine g_not ?_
    | with_reducible refine g_andV ?_
    | with_reducible refine g_orV ?_
    | with_reducible refine g_notV ?_
    | with_reducible refine g_ifx ?_
    | with_reducible refine g_tup ?_
    | with_reducible refine g_lst ?_
    | with_reducible refine g_sl ?_
    | with_reducible refine g_part ?_
    | with_reducible refine g_part1 ?_
    | with_reducible refine g_nopart ?_
    | with_reducible refine g_sub ?_
    | with_reducible refine g_drop ?_
    | with_reducible refine g_yes ?_
    | with_reducible refine g_m0 ?_
    | with_reducible refine g_rng1 ?_
    | with_reducible refine g_tyS ?_
    | with_reducible refine g_dnew ?_
    | with_reducible refine g_disp1 ?_
    | with_reducible refine g_true rfl ?_
    | with_reducible refine g_false rfl ?_
    | with_reducible refine g_for ?_
    | with_reducible refine g_lc ?_
    | with_reducible refine g_iL ?_
    | with_reducible refine g_iT ?_
    | with_reducible refine g_iS ?_
    | with_reducible refine g_atS ?_
    | with_reducible refine g_m1 ?_
    | with_reducible refine g_isStr ?_
    | with_reducible refine g_txtB ?_
    | with_reducible refine g_notInS ?_
    | with_reducible refine g_chain ?_
    | ((with_reducible refine g_new ?_ ?_); focus (exact small_of (by simp)))
    | ((with_reducible refine g_new ?_ ?_); focus (decide))
    | ((with_reducible refine g_I ?_ ?_); focus (walk_at "hside"))
    | ((with_reducible refine g_eq ?_ ?_); focus rfl)
    | ((with_reducible refine g_ne ?_ ?_); focus rfl)
    | ((with_reducible refine' g_ixL (SqL.of ?h1) ?h2 ?h3); (case h1 => walk_at "hlook"); (case h2 => rfl))
    | ((with_reducible refine' g_lenL (SqL.of ?h1) ?h2); (case h1 => walk_at "hlook"))
    | ((with_reducible refine' g_setL ?h1 ?h2 ?h3); (case h1 => walk_at "hlook"); (case h2 => rfl)))
local macro_rules
  | `(tactic| walk_at "hx") => `(tactic| repeat (walk_at "hs"))
local macro_rules
  | `(tactic| walk_at "hline") => `(tactic| ((with_reducible refine g_seq ?_); repeat (walk_at "hs")))
local macro_rules
  | `(tactic| walk_at "hgo") => `(tactic| repeat (first | with_reducible refine g_seq ?_ | walk_at "hs"))
local macro_rules
  | `(tactic| walk_at "hm") => `(tactic| repeat (first | with_reducible refine g_seq ?_ | ((with_reducible refine g_modC ?_ ?_); focus (decide); focus (intro x hx0 hx1)) | walk_at "hs"))
/-- the pen at q: the cells, at most b draws so far -/
structure Pen (H : Hp) (q : Addr) (b : Nat) : Prop where
  ex : ∃ (c : Addr) (ns : List Int) (z left : Int), H q = some (.lst [.ref c, .int z, .int left]) ∧ H c = some (.lst (ns.map V.int)) ∧ 0 ≤ z ∧ z ≤ b ∧ 0 ≤ left ∧ ns.length ≤ 63
/-- all but q stands -/
structure But (q : Addr) (H H' : Hp) : Prop where
  st : ∀ a o, a ≠ q → H a = some o → H' a = some o
  cl : ∀ c x y, H q = some (.lst [.ref c, x, y]) → ∃ x' y', H' q = some (.lst [.ref c, x', y'])
structure TxtD (mg : Str → Option Value) : Prop where
  int : mg "int" = none
  len : mg "len" = none
  abs : mg "abs" = none
def spDraw : Sp := fun vs H Q _ => ∃ (q : Addr) (m : Int) (b : Nat), vs = [.ref q, .int m] ∧ Pen H q b ∧ b ≤ 100000 ∧ 1 ≤ m ∧ m ≤ 1000 ∧ ∀ (d : Int) (H' : Hp), 0 ≤ d → d < m → Pen H' q (b + 1) → But q H H' → Q (.int d) H'
theorem pen_ne {H : Hp} {q c : Addr} {ns : List Int} {z left : Int} (h1 : H q = some (.lst [.ref c, .int z, .int left])) (h2 : H c = some (.lst (ns.map V.int))) : c ≠ q := by
  refine ne_of h2 h1 fun e => ?_
  cases ns with
  | nil => cases e
  | cons a r => cases e
theorem fmod_in {x m : Int} (h : 1 ≤ m) : 0 ≤ x.fmod m ∧ x.fmod m < m := by
  rw [Int.fmod_eq_emod_of_nonneg x (by omega)]
  exact ⟨Int.emod_nonneg x (by omega), Int.emod_lt_of_pos x (by omega)⟩
theorem fdiv_in {x m : Int} (h : 1 ≤ m) (hx : 0 ≤ x) : 0 ≤ x.fdiv m := by
  rw [Int.fdiv_eq_ediv_of_nonneg x (by omega)]
  exact Int.ediv_nonneg hx (by omega)
theorem But.self {q : Addr} {H : Hp} : But q H H := ⟨fun _ _ _ e => e, fun _ x y e => ⟨x, y, e⟩⟩
theorem But.trans {q : Addr} {H H1 H2 : Hp} (a : But q H H1) (b : But q H1 H2) : But q H H2 := by
  refine ⟨fun x o n e => b.st x o n (a.st x o n e), fun c x y e => ?_⟩
  obtain ⟨x', y', e'⟩ := a.cl c x y e
  exact b.cl c x' y' e'
theorem But.of {q : Addr} {H H1 : Hp} (a : Same H H1) : But q H H1 := ⟨fun x o _ e => a x o e, fun c x y e => ⟨x, y, a _ _ e⟩⟩
theorem but_upd {q c : Addr} {H : Hp} {x y x' y' : V} (h : H q = some (.lst [.ref c, x, y])) : But q H (upd H q (.lst [.ref c, x', y'])) := by
  refine ⟨fun a u n e => ?_, fun d z w e => ?_⟩
  · rw [upd_ne n]
    exact e
  · rw [h] at e
    cases e
    exact ⟨x', y', upd_same⟩
theorem But.upd {q c : Addr} {H H' : Hp} {x y x' y' : V} (b : But q H H') (h : H' q = some (.lst [.ref c, x, y])) : But q H (L2.upd H' q (.lst [.ref c, x', y'])) := b.trans (but_upd h)
theorem same_new {p : Addr} {H : Hp} {o : HO} (hp : H p = none) : Same H (L2.upd H p o) := fun a u e => by
  rw [upd_ne (ne_of_none e hp)]
  exact e
theorem But.new {q p : Addr} {H H' : Hp} {o : HO} (h : But q H H') (hp : H' p = none) : But q H (L2.upd H' p o) := h.trans (.of (same_new hp))
theorem But.free {q p : Addr} {H H' : Hp} (h : But q H H') (n : p ≠ q) (hp : H' p = none) : H p = none := by
  cases e : H p with
  | none => rfl
  | some o =>
    rw [h.st p o n e] at hp
    cases hp
theorem at_fmod {ns : List Int} (h : ns ≠ []) (x : Int) : ∃ v, atI (ns.map V.int) (x.fmod ((ns.map V.int).length : Int)) = some (.int v) := by
  have hl : 0 < ns.length := List.length_pos_iff.mpr h
  obtain ⟨h0, h1⟩ := fmod_in (x := x) (m := ((ns.map V.int).length : Int)) (by rw [List.length_map]; omega)
  obtain ⟨j, hj⟩ : ∃ j : Nat, x.fmod ((ns.map V.int).length : Int) = (j : Int) := ⟨(x.fmod ((ns.map V.int).length : Int)).toNat, by omega⟩
  rw [hj]
  rw [hj, List.length_map] at h1
  have hlt : j < ns.length := by omega
  refine ⟨ns[j], ?_⟩
  refine atI_nat ?_
  rw [List.getElem?_map, List.getElem?_eq_getElem hlt]
  rfl
section
variable {P : Program} {w : World} {K : PySem.W.Frag} {mg : Str → Option Value} {base : Heap}
theorem ok_law_draw {f : Addr} {fd : FuncData} (F : Fun K "_law_draw" "_law_draw" s_law_draw f fd) (T : TxtD mg) : FnOk P w K mg base CX0 1 f fd ["_law_pen_here", "_law_many"] spDraw := by
  refine F.ok sc_law_draw (fun vs H Q E h => ?_) (fun cdv A outer s H vs Q E hr h => ?_)
  · obtain ⟨q, m, b, rfl, _⟩ := h
    rfl
  · obtain ⟨q, m, b, rfl, ⟨c, ns, z, left, hq, hc, z0, zb, l0, len⟩, hb, m1, m2, k⟩ := h
    have hu := hu_of hr
    have ncq : c ≠ q := pen_ne hq hc
    have fm := fun x : Int => fmod_in (x := x) m1
    refine ⟨_, (pss_cons (ps_if (pt_cmpR op_gt (pe_ix ix_list (pv 0) pe_int (fun _ _ => rfl)) pe_int (nomark _)) (pss_cons (ps_set (i := 2) sc_law_draw.nd rfl (Or.inl rfl) (pe_op op_modN (pe_callTy call_intI (by rfl) T.int (by decide +kernel) (pa_cons (pe_ix ix_list (pv 0) pe_int (fun _ _ => rfl)) pa_nil)) (pv 1)))
      (pss_cons (ps_asg (pe_op op_fdivN (pe_callTy call_intI (by rfl) T.int (by decide +kernel) (pa_cons (pe_ix ix_list (pv 0) pe_int (fun _ _ => rfl)) pa_nil)) (pv 1)) (pg_sub (pv 0) pe_int set_list))
      (pss_one (ps_ret (pv 2))))) pss_nil)
      (pss_cons (ps_set (i := 3) sc_law_draw.nd rfl (Or.inl rfl) (pe_ix ix_list (pv 0) pe_int (fun _ _ => rfl)))
      (pss_cons (ps_asg (pe_op op_add (pv 3) pe_int) (pg_sub (pv 0) pe_int set_list))
      (pss_cons (ps_set (i := 4) sc_law_draw.nd rfl (Or.inl rfl) (pe_op op_add (pe_op op_mul pe_int (pv 3)) pe_int))
      (pss_cons (ps_if (pt_cmpR (op_neD (hr.units)) (pe_ix ix_list (pv 0) pe_int (fun _ _ => rfl)) (pe_lst pa_nil) (nomark _)) (pss_one (ps_set (i := 4) sc_law_draw.nd rfl (Or.inl rfl) (pe_ix ix_list (pe_ix ix_list (pv 0) pe_int (fun _ _ => rfl)) (pe_op op_modN (pe_callTy call_intI (by rfl) T.int (by decide +kernel) (pa_cons (pv 3) pa_nil)) (pe_callB call_lenL (by rfl) T.len (by decide +kernel) (pa_cons (pe_ix ix_list (pv 0) pe_int (fun _ _ => rfl)) pa_nil))) (fun _ _ => rfl)))) pss_nil)
      (pss_cons (ps_if (PW.pt (pw_and (pt_cmpR op_lt (pv 3) (pe_callB call_lenL (by rfl) T.len (by decide +kernel) (pa_cons (pe_ix ix_list (pv 0) pe_int (fun _ _ => rfl)) pa_nil)) (nomark _)) (pw_and1 (pt_cmpR op_ge (pe_callB call_absI (by rfl) T.abs (by decide +kernel) (pa_cons (pv 4) pa_nil)) (pe_op op_pow pe_int pe_int) (nomark _))))) (pss_cons (ps_set (i := 5) sc_law_draw.nd rfl (Or.inl rfl) (pe_op op_add (pe_op op_mul pe_int (pe_op op_sub (pe_callB call_absI (by rfl) T.abs (by decide +kernel) (pa_cons (pv 4) pa_nil)) (pe_op op_pow pe_int pe_int))) (pe_callTy call_intB (by rfl) T.int (by decide +kernel) (pa_cons (pe_cmpR op_lt (pv 4) pe_int (nomark _)) pa_nil))))
      (pss_cons (ps_asg (pe_op op_fdivN (pv 5) (pv 1)) (pg_sub (pv 0) pe_int set_list))
      (pss_one (ps_ret (pe_op op_modN (pe_callTy call_intI (by rfl) T.int (by decide +kernel) (pa_cons (pv 5) pa_nil)) (pv 1)))))) pss_nil)
      (pss_cons (ps_set (i := 6) sc_law_draw.nd rfl (Or.inl rfl) (pe_op op_mod (pe_callTy call_intI (by rfl) T.int (by decide +kernel) (pa_cons (pe_op op_pow (pe_op op_add (pe_op op_add (pe_op op_mod (pe_callTy call_intI (by rfl) T.int (by decide +kernel) (pa_cons (pv 4) pa_nil)) pe_int) (pe_op op_mul pe_int (pv 3))) pe_int) pe_int) pa_nil)) pe_int))
      (pss_cons (ps_set (i := 6) sc_law_draw.nd rfl (Or.inl rfl) (pe_op op_mod (pe_callTy call_intI (by rfl) T.int (by decide +kernel) (pa_cons (pe_op op_pow (pe_op op_add (pe_op op_add (pe_op op_mul (pv 6) (pe_op op_add (pe_op op_mul pe_int (pv 3)) pe_int)) (pe_op op_mul (pe_op op_mul pe_int (pv 3)) (pv 3))) pe_int) pe_int) pa_nil)) pe_int))
      (pss_one (ps_ret (pe_op op_modN (pe_callTy call_intI (by rfl) T.int (by decide +kernel) (pa_cons (pe_op op_fdiv (pv 6) pe_int) pa_nil)) (pv 1)))))))))))), ?_⟩
    dsimp only [cxOf]
    walk_at "hgo"
    refine ite2 (fun c1 => ?_) (fun c1 => ?_)
    · walk_at "hgo"
      refine k _ _ (fm _).1 (fm _).2 ⟨c, ns, z, _, upd_same, look_past ncq hc, z0, by omega, fdiv_in m1 l0, len⟩ (but_upd hq)
    · walk_at "hx"
      walk_at "hline"
      walk_at "hline"
      walk_at "hline"
      refine g_cut (fun σ' H' => ∃ cell, σ' = [some (.ref q), some (.int m), none, some (.int z), some (.int cell), none, none] ∧ H' q = some (.lst [.ref c, .int (z + 1), .int left]) ∧ H' c = some (.lst (ns.map V.int)) ∧ But q H H') ?_ ?_
      · rintro σ' H2 ⟨cell, rfl, hq2, hc2, bt⟩
        clear hq hc
        refine g_cut (fun σ' H' => σ' = [some (.ref q), some (.int m), none, some (.int z), some (.int cell), none, none] ∧ H' = H2) ?_ ?_
        · rintro σ' H' ⟨rfl, rfl⟩
          walk_at "hm"
          refine k _ _ (fm _).1 (fm _).2 ⟨c, ns, z + 1, left, hq2, hc2, by omega, by omega, l0, len⟩ bt
        · intro R hR
          walk_at "hx"
          refine ite2 (fun c2 => ?_) (fun c2 => ?_)
          · walk_at "hx"
            refine ite2 (fun c3 => ?_) (fun c3 => ?_)
            · walk_at "hgo"
              have big := of_decide_eq_true c3
              refine k _ _ (fm _).1 (fm _).2 ⟨c, ns, z + 1, _, upd_same, look_past ncq hc2, by omega, by omega, fdiv_in m1 ?_, len⟩ (bt.upd hq2)
              have p18 : (10 : Int) ^ Int.toNat 18 = 1000000000000000000 := by decide
              split <;> omega
            · walk_at "hx"
              exact hR _ _ ⟨rfl, rfl⟩
          · walk_at "hx"
            exact hR _ _ ⟨rfl, rfl⟩
      · intro R hR
        walk_at "hx"
        intro p hp
        have hq1 := look_past (o := .lst []) (ne_of_none (look_same rfl rfl) hp) (show upd H q (.lst ([V.ref c, V.int z, V.int left].set (Int.toNat 1) (V.int (z + 1)))) q = some (.lst [V.ref c, V.int (z + 1), V.int left]) from upd_same)
        have hc0 : upd H q (.lst ([V.ref c, V.int z, V.int left].set (Int.toNat 1) (V.int (z + 1)))) c = some (.lst (ns.map V.int)) := look_past ncq hc
        have hc1 := look_past (o := .lst []) (ne_of_none hc0 hp) hc0
        have bt : But q H (upd (upd H q (.lst ([V.ref c, V.int z, V.int left].set (Int.toNat 1) (V.int (z + 1))))) p (.lst [])) := (but_upd (x' := V.int (z + 1)) (y' := V.int left) hq).new hp
        refine g_neD (.lst (SqL.of hc1) (dp_ints ns)) (.lst (SqL.of upd_same) .nil) (shapedInts ns) (by decide +kernel) ?_
        rw [eqvInts0]
        generalize upd (upd H q (.lst ([V.ref c, V.int z, V.int left].set (Int.toNat 1) (V.int (z + 1))))) p (.lst []) = H2 at hq1 hc1 bt ⊢
        walk_at "hx"
        by_cases hn : ns = []
        · refine g_false (by simp [hn]) ?_
          walk_at "hx"
          exact hR _ _ ⟨_, rfl, hq1, hc1, bt⟩
        · refine g_true (by simp [hn]) ?_
          obtain ⟨v, hv⟩ := at_fmod hn z
          have hl : 0 < ns.length := List.length_pos_iff.mpr hn
          walk_at "hx"
          refine g_I (by show _ ≠ (0 : Int); rw [List.length_map]; omega) ?_
          refine g_ixL (SqL.of hc1) hv ?_
          walk_at "hx"
          exact hR _ _ ⟨v, rfl, hq1, hc1, bt⟩
end

/-- a value of the law: its kind, by name -/
inductive Kd (K : PySem.W.Frag) (H : Hp) : V → String → Prop
  | non : Kd K H .non "NoneType"
  | bl (b : Bool) : Kd K H (.bl b) "bool"
  | int (i : Int) : Kd K H (.int i) "int"
  | str (s : Str) : s.length ≤ 10000 → PyData.strOk s = true → Kd K H (.str s) "str"
  | lst {a : Addr} {xs : List V} : H a = some (.lst xs) → Kd K H (.ref a) "list"
  | tup {a : Addr} {xs : List V} : H a = some (.tup xs) → Kd K H (.ref a) "tuple"
  | dK {a : Addr} {kvs : List (Key × V)} : H a = some (.dK kvs) → Kd K H (.ref a) "dict"
theorem Kd.ty {K : PySem.W.Frag} {H : Hp} {v : V} {n : String} (h : Kd K H v n) : TyX K H v (.type n) := by
  cases h with
  | non => exact .base .non
  | bl b => exact .base (.bl b)
  | int i => exact .base (.int i)
  | str s _ _ => exact .base (.str s)
  | lst e => exact .base (.lst e)
  | tup e => exact .base (.tup e)
  | dK e => exact .base (.dK e)
def isS : V → Bool
  | .str _ => true
  | _ => false
def isI : V → Bool
  | .int _ => true
  | _ => false
def isB : V → Bool
  | .bl _ => true
  | _ => false
theorem Kd.isStr {K : PySem.W.Frag} {H : Hp} {v : V} {n : String} (h : Kd K H v n) : kitB n "str" = some (isS v) := by
  cases h <;> first | (show _ = some true; decide +kernel) | (show _ = some false; decide +kernel)
theorem Kd.isInt {K : PySem.W.Frag} {H : Hp} {v : V} {n : String} (h : Kd K H v n) : kitB n "int" = some (isI v || isB v) := by
  cases h <;> first | (show _ = some true; decide +kernel) | (show _ = some false; decide +kernel)
theorem Kd.isBool {K : PySem.W.Frag} {H : Hp} {v : V} {n : String} (h : Kd K H v n) : kitB n "bool" = some (isB v) := by
  cases h <;> first | (show _ = some true; decide +kernel) | (show _ = some false; decide +kernel)
def letters : Str := Str.ofString "abcdefghijklmnopqrstuvwxyz"
def okS (s : Str) : Bool := decide (0 < s.length) && decide (s.length < 9) && !decide (s = Str.ofString "self") && s.cps.toList.all fun c => decide (c ∈ letters.cps.toList)
def okV : V → Bool
  | .str s => okS s
  | _ => false
theorem letters_is : letters.cps.toList = List.range' 97 26 := by decide +kernel
theorem mem_letters (c : Nat) : c ∈ letters.cps.toList ↔ 97 ≤ c ∧ c < 123 := by
  rw [letters_is, List.mem_range'_1]
theorem tabs : ∀ c : _root_.Fin 128, (Unicode.isAlpha c.val && !(Unicode.isUpper c.val || Unicode.isTitle c.val)) = decide (97 ≤ c.val ∧ c.val < 123) ∧ (decide (97 ≤ c.val ∧ c.val < 123) = true → Unicode.isLower c.val = true) := by decide +kernel
theorem tab {c : Nat} (h : c < 128) : (Unicode.isAlpha c = true ∧ Unicode.isUpper c = false ∧ Unicode.isTitle c = false) ↔ (97 ≤ c ∧ c < 123) := by
  have t := (tabs ⟨c, h⟩).1
  simp only at t
  constructor
  · rintro ⟨a, b, d⟩
    rw [a, b, d] at t
    exact of_decide_eq_true t.symm
  · intro q
    rw [decide_eq_true q] at t
    simp only [Bool.and_eq_true, Bool.not_eq_true', Bool.or_eq_false_iff] at t
    exact ⟨t.1, t.2.1, t.2.2⟩
theorem tabL {c : Nat} (h : 97 ≤ c ∧ c < 123) : Unicode.isLower c = true := (tabs ⟨c, by omega⟩).2 (decide_eq_true h)
theorem name_is (s : Str) : (Txt.isascii s && (Txt.isalpha s && Txt.islower s)) = (decide (0 < s.length) && s.cps.toList.all fun c => decide (c ∈ letters.cps.toList)) := by
  have e0 : ∀ p : Nat → Bool, s.cps.all p = s.cps.toList.all p := fun p => by rw [Array.all_toList]
  have e1 : ∀ p : Nat → Bool, s.cps.any p = s.cps.toList.any p := fun p => by rw [Array.any_toList]
  unfold Txt.isascii Txt.isalpha Txt.islower
  rw [e0, e0, e1, e1]
  have hl : s.length = s.cps.toList.length := by
    show s.cps.size = _
    rw [Array.length_toList]
  rw [hl]
  generalize s.cps.toList = l
  rw [Bool.eq_iff_iff]
  simp only [Bool.and_eq_true, List.all_eq_true, decide_eq_true_eq, List.any_eq_true, Bool.not_eq_true', List.any_eq_false, Bool.or_eq_true, not_or, mem_letters, gt_iff_lt]
  constructor
  · rintro ⟨a, ⟨n, al⟩, lo, up⟩
    refine ⟨n, fun c hc => ?_⟩
    have u := up c hc
    exact (tab (a c hc)).mp ⟨al c hc, by simpa using u.1, by simpa using u.2⟩
  · rintro ⟨n, al⟩
    refine ⟨fun c hc => by have := al c hc; omega, ⟨n, fun c hc => ?_⟩, ?_, fun c hc => ?_⟩
    · have := al c hc
      exact ((tab (c := c) (by omega)).mpr this).1
    · cases l with
      | nil => simp at n
      | cons c r => exact ⟨c, List.mem_cons_self, tabL (al c List.mem_cons_self)⟩
    · have := al c hc
      have q := (tab (c := c) (by omega)).mpr this
      exact ⟨by simp [q.2.1], by simp [q.2.2]⟩
/-- the signs of a text that are no letters -/
def odd (l : List Nat) : List Nat := l.filter fun c => !decide (c ∈ letters.cps.toList)
theorem dp_signs {K : PySem.W.Frag} {H : Hp} : ∀ l : List Nat, DpAll K H (l.map fun c => V.str ⟨#[c]⟩) (l.map fun c => PyData.str ⟨#[c]⟩)
  | [] => .nil
  | c :: r => .cons (.str _) (dp_signs r)
theorem shaped_signs : ∀ l : List Nat, (∀ c ∈ l, c < 0x110000) → PyData.canLayAll0 (l.map fun c => PyData.str ⟨#[c]⟩) = true ∧ PyData.depthAll (l.map fun c => PyData.str ⟨#[c]⟩) ≤ 1
  | [], _ => by simp [PyData.canLayAll0, PyData.depthAll]
  | c :: r, h => by
    have ih := shaped_signs r fun x hx => h x (List.mem_cons_of_mem _ hx)
    have hc := h c List.mem_cons_self
    rw [List.map_cons]
    simp only [PyData.canLayAll0, PyData.canLay0, PyData.depthAll, PyData.depth]
    refine ⟨?_, by omega⟩
    rw [ih.1, Bool.and_true]
    simp [PyData.strOk]
    exact hc
theorem shapedSigns {l : List Nat} (h : ∀ c ∈ l, c < 0x110000) : SeqAt.shaped (.list (l.map fun c => PyData.str ⟨#[c]⟩)) = true := by
  have s := shaped_signs l h
  have h1 : PyData.canLay0 (.list (l.map fun c => PyData.str ⟨#[c]⟩)) = true := by
    simp only [PyData.canLay0]
    exact s.1
  have h2 : PyData.depth (.list (l.map fun c => PyData.str ⟨#[c]⟩)) ≤ 64 := by
    simp only [PyData.depth]
    omega
  unfold SeqAt.shaped
  rw [h1, Bool.true_and]
  exact decide_eq_true h2
theorem eqvSigns (l : List Nat) : PyData.eqv (.list (l.map fun c => PyData.str ⟨#[c]⟩)) (.list []) = decide (l = []) := by
  cases l with
  | nil => simp [PyData.eqv, PyData.eqvAll]
  | cons a r => simp [PyData.eqv, PyData.eqvAll]
theorem strOk_all {s : Str} (h : PyData.strOk s = true) : ∀ c ∈ s.cps.toList, c < 0x110000 := by
  unfold PyData.strOk at h
  rw [← Array.all_toList, List.all_eq_true] at h
  intro c hc
  exact of_decide_eq_true (h c hc)
theorem odd_in {l : List Nat} {c : Nat} (m : c ∈ letters.cps.toList) : odd (l ++ [c]) = odd l := by
  unfold odd
  rw [List.filter_append, List.filter_cons_of_neg (by rw [decide_eq_true m]; decide), List.filter_nil, List.append_nil]
theorem odd_out {l : List Nat} {c : Nat} (m : ¬ c ∈ letters.cps.toList) : odd (l ++ [c]) = odd l ++ [c] := by
  unfold odd
  rw [List.filter_append, List.filter_cons_of_pos (by rw [decide_eq_false m]; rfl), List.filter_nil]
theorem odd_nil (l : List Nat) : decide (odd l = []) = l.all fun c => decide (c ∈ letters.cps.toList) := by
  unfold odd
  rw [Bool.eq_iff_iff]
  simp [List.filter_eq_nil_iff, List.all_eq_true]
structure TxtN (mg : Str → Option Value) : Prop where
  int : mg "int" = none
  bool : mg "bool" = none
  str : mg "str" = none
  len : mg "len" = none
  isinstance : mg "isinstance" = none
/-- a def that tells something of a value -/
def spIs (K : PySem.W.Frag) (f : V → Bool) : Sp := fun vs H Q _ => ∃ (v : V) (n : String), vs = [v] ∧ Kd K H v n ∧ ∀ H', Same H H' → Q (.bl (f v)) H'
def wholeV (v : V) : Bool := (isI v || isB v) && !isB v
section
variable {P : Program} {w : World} {K : PySem.W.Frag} {mg : Str → Option Value} {base : Heap}
theorem ok_is_integer {f : Addr} {fd : FuncData} (F : Fun K "is_integer" "is_integer" s_is_integer f fd) (T : TxtN mg) : FnOk P w K mg base CX0 1 f fd ["value"] (spIs K wholeV) := by
  refine F.ok sc_is_integer (fun vs H Q E h => ?_) (fun cdv A outer s H vs Q E hr h => ?_)
  · obtain ⟨v, n, rfl, _⟩ := h
    rfl
  · obtain ⟨v, n, rfl, hk, k⟩ := h
    refine ⟨_, (pss_one (ps_ret (pe_and (pe_callB call_isi (by rfl) T.isinstance (by decide +kernel) (pa_cons (pv 0) (pa_cons (pe_bltn (v := .ty "int") (u := .type "int") (by rfl) T.int (by decide +kernel) rfl) pa_nil))) (pe_one (pe_not (pe_callB call_isi (by rfl) T.isinstance (by decide +kernel) (pa_cons (pv 0) (pa_cons (pe_bltn (v := .ty "bool") (u := .type "bool") (by rfl) T.bool (by decide +kernel) rfl) pa_nil)))))))), ?_⟩
    dsimp only [cxOf]
    walk_at "hgo"
    refine g_isi hk.ty hk.isInt ?_
    walk_at "hgo"
    unfold wholeV at k
    cases e : (isI v || isB v) with
    | false =>
      rw [e] at k
      refine iteF ?_
      exact k H (Same.refl H)
    | true =>
      rw [e] at k
      refine iteT ?_
      walk_at "hgo"
      refine g_isi hk.ty hk.isBool ?_
      walk_at "hgo"
      exact k H (Same.refl H)
theorem ok_law_is_whole {f : Addr} {fd : FuncData} (F : Fun K "_law_is_whole" "_law_is_whole" s_law_is_whole f fd) (T : TxtN mg) : FnOk P w K mg base CX0 1 f fd ["_law_thing"] (spIs K wholeV) := by
  refine F.ok sc_law_is_whole (fun vs H Q E h => ?_) (fun cdv A outer s H vs Q E hr h => ?_)
  · obtain ⟨v, n, rfl, _⟩ := h
    rfl
  · obtain ⟨v, n, rfl, hk, k⟩ := h
    refine ⟨_, (pss_one (ps_ret (pe_and (pe_callB call_isi (by rfl) T.isinstance (by decide +kernel) (pa_cons (pv 0) (pa_cons (pe_bltn (v := .ty "int") (u := .type "int") (by rfl) T.int (by decide +kernel) rfl) pa_nil))) (pe_one (pe_not (pe_callB call_isi (by rfl) T.isinstance (by decide +kernel) (pa_cons (pv 0) (pa_cons (pe_bltn (v := .ty "bool") (u := .type "bool") (by rfl) T.bool (by decide +kernel) rfl) pa_nil)))))))), ?_⟩
    dsimp only [cxOf]
    walk_at "hgo"
    refine g_isi hk.ty hk.isInt ?_
    walk_at "hgo"
    unfold wholeV at k
    cases e : (isI v || isB v) with
    | false =>
      rw [e] at k
      refine iteF ?_
      exact k H (Same.refl H)
    | true =>
      rw [e] at k
      refine iteT ?_
      walk_at "hgo"
      refine g_isi hk.ty hk.isBool ?_
      walk_at "hgo"
      exact k H (Same.refl H)
theorem ok_is_name {f : Addr} {fd : FuncData} (F : Fun K "is_name" "is_name" s_is_name f fd) (T : TxtN mg) : FnOk P w K mg base CX0 1 f fd ["value"] (spIs K okV) := by
  refine F.ok sc_is_name (fun vs H Q E h => ?_) (fun cdv A outer s H vs Q E hr h => ?_)
  · obtain ⟨v, n, rfl, _⟩ := h
    rfl
  · obtain ⟨v, n, rfl, hk, k⟩ := h
    refine ⟨_, (pss_cons (ps_if (PW.pt (pw_or (pt_not (pt_val (pe_callB call_isi (by rfl) T.isinstance (by decide +kernel) (pa_cons (pv 0) (pa_cons (pe_bltn (v := .ty "str") (u := .type "str") (by rfl) T.str (by decide +kernel) rfl) pa_nil))))) (pw_or1 (pt_cmpR op_gt (pe_callB call_lenS (by rfl) T.len (by decide +kernel) (pa_cons (pv 0) pa_nil)) pe_int (nomark _))))) (pss_one (ps_ret pe_bl)) pss_nil)
      (pss_one (ps_ret (pe_and (pe_bm0 PySem.F.plainAttrs_str PySem.F.slot_str_isascii PySem.F.type_str_isascii mt_isasciiB (pv 0)) (pe_and (pe_bm0 PySem.F.plainAttrs_str PySem.F.slot_str_isalpha PySem.F.type_str_isalpha mt_isalphaB (pv 0)) (pe_and (pe_bm0 PySem.F.plainAttrs_str PySem.F.slot_str_islower PySem.F.type_str_islower mt_islowerB (pv 0)) (pe_one (pe_cmpR op_ne (pv 0) pe_str (nomark _))))))))), ?_⟩
    dsimp only [cxOf]
    walk_at "hgo"
    refine g_isi hk.ty hk.isStr ?_
    walk_at "hgo"
    cases hk with
    | str s hs so =>
      refine g_false rfl ?_
      walk_at "hgo"
      refine g_lenS (small_of (by omega)) ?_
      walk_at "hgo"
      refine ite2 (fun c1 => ?_) (fun c1 => ?_)
      · walk_at "hgo"
        have e : okV (.str s) = false := by
          have z : ¬ s.length < 9 := by
            have := of_decide_eq_true c1
            omega
          show okS s = false
          unfold okS
          rw [decide_eq_false z]
          simp
        rw [e] at k
        exact k H (Same.refl H)
      · walk_at "hgo"
        have z : s.length < 9 := by
          have := of_decide_eq_false (Bool.eq_false_iff.mpr c1)
          omega
        have e : okV (.str s) = (Txt.isascii s && (Txt.isalpha s && (Txt.islower s && !decide (V.str s = V.str (Str.ofString "self"))))) := by
          have n := name_is s
          have q : decide (V.str s = V.str (Str.ofString "self")) = decide (s = Str.ofString "self") := by
            by_cases w : s = Str.ofString "self"
            · rw [decide_eq_true w, decide_eq_true (congrArg V.str w)]
            · rw [decide_eq_false w, decide_eq_false (fun y => w (V.str.inj y))]
          rw [q]
          have r : (Txt.isascii s && (Txt.isalpha s && (Txt.islower s && !decide (s = Str.ofString "self")))) = ((Txt.isascii s && (Txt.isalpha s && Txt.islower s)) && !decide (s = Str.ofString "self")) := by
            cases Txt.isascii s <;> cases Txt.isalpha s <;> cases Txt.islower s <;> simp
          rw [r, n]
          show okS s = _
          unfold okS
          rw [decide_eq_true z]
          cases decide (0 < s.length) <;> cases decide (s = Str.ofString "self") <;> simp
        rw [e] at k
        cases e1 : Txt.isascii s with
        | false =>
          rw [e1] at k
          exact iteF (k H (Same.refl H))
        | true =>
          rw [e1] at k
          refine iteT ?_
          walk_at "hgo"
          cases e2 : Txt.isalpha s with
          | false =>
            rw [e2] at k
            exact iteF (k H (Same.refl H))
          | true =>
            rw [e2] at k
            refine iteT ?_
            walk_at "hgo"
            cases e3 : Txt.islower s with
            | false =>
              rw [e3] at k
              exact iteF (k H (Same.refl H))
            | true =>
              rw [e3] at k
              refine iteT ?_
              walk_at "hgo"
              exact k H (Same.refl H)
    | _ =>
      refine g_true rfl ?_
      walk_at "hgo"
      exact k H (Same.refl H)
theorem ok_law_is_word {f : Addr} {fd : FuncData} (F : Fun K "_law_is_word" "_law_is_word" s_law_is_word f fd) (T : TxtN mg) : FnOk P w K mg base CX0 1 f fd ["_law_thing"] (spIs K okV) := by
  refine F.ok sc_law_is_word (fun vs H Q E h => ?_) (fun cdv A outer s H vs Q E hr h => ?_)
  · obtain ⟨v, n, rfl, _⟩ := h
    rfl
  · obtain ⟨v, n, rfl, hk, k⟩ := h
    have hu : A.units + 1 < cLine := by
      have h := hr.un
      have e : (A.deeper (envOfC (Str.ofString "_law_is_word") (defScope s_law_is_word) s.heap.objs.size f cdv)).units = A.units + 3 := rfl
      omega
    refine ⟨_, (pss_cons (ps_if (PW.pt (pw_or (pt_not (pt_val (pe_callB call_isi (by rfl) T.isinstance (by decide +kernel) (pa_cons (pv 0) (pa_cons (pe_bltn (v := .ty "str") (u := .type "str") (by rfl) T.str (by decide +kernel) rfl) pa_nil))))) (pw_or (pt_not (pt_chain op_lt op_lt pe_int (pe_callB call_lenS (by rfl) T.len (by decide +kernel) (pa_cons (pv 0) pa_nil)) pe_int)) (pw_or1 (pt_cmpR op_eq (pv 0) pe_str (nomark _)))))) (pss_one (ps_ret pe_bl)) pss_nil)
      (pss_one (ps_ret (pe_cmpR (op_eqD (hr.units)) (pe_lc (own := [("_law_sign", 1)]) (g := gName 1) rfl sc_law_is_word.nd (pi_str (pv 0)) (blkOk_by (own := [("_law_sign", 1)]) (N := N_law_is_word) (sc := defScope s_law_is_word) (by decide +kernel)) (fun _ _ _ _ _ => pg_name (i := 1) sc_law_is_word.nd rfl (Or.inl rfl)) (fun _ _ _ _ _ => (pts_one (pt_cmpR op_notInS (pv 1) pe_str rfl))) (fun _ _ _ _ _ => (pv 1))) (pe_lst pa_nil) (nomark _))))), ?_⟩
    dsimp only [cxOf]
    walk_at "hgo"
    refine g_isi hk.ty hk.isStr ?_
    walk_at "hgo"
    cases hk with
    | str s hs so =>
      refine g_false rfl ?_
      walk_at "hgo"
      refine g_lenS (small_of (by omega)) ?_
      walk_at "hgo"
      refine ite2 (fun c1 => ?_) (fun c1 => ?_)
      · walk_at "hgo"
        refine ite2 (fun c2 => ?_) (fun c2 => ?_)
        · refine g_true rfl ?_
          walk_at "hgo"
          have e : okV (.str s) = false := by
            have z : ¬ s.length < 9 := by
              simp at c2
              omega
            show okS s = false
            unfold okS
            rw [decide_eq_false z]
            simp
          rw [e] at k
          exact k H (Same.refl H)
        · walk_at "hgo"
          have z0 : 0 < s.length := by
            have := of_decide_eq_true c1
            omega
          have z9 : s.length < 9 := by
            have : decide ((s.length : Int) < 9) = true := by simpa using c2
            have := of_decide_eq_true this
            omega
          refine ite2 (fun c3 => ?_) (fun c3 => ?_)
          · walk_at "hgo"
            have e : okV (.str s) = false := by
              have q : s = Str.ofString "self" := V.str.inj (of_decide_eq_true c3)
              show okS s = false
              unfold okS
              rw [decide_eq_true q]
              simp
            rw [e] at k
            exact k H (Same.refl H)
          · walk_at "hgo"
            have q : ¬ s = Str.ofString "self" := fun w => c3 (decide_eq_true (congrArg V.str w))
            have e : okV (.str s) = decide (odd s.cps.toList = []) := by
              rw [odd_nil]
              show okS s = _
              unfold okS
              rw [decide_eq_true z0, decide_eq_true z9, decide_eq_false q]
              simp
            rw [e] at k
            have hl : s.cps.size = s.cps.toList.length := (Array.length_toList).symm
            refine fun D hD => lc_it walk_str (fun i H' => Same H H' ∧ H' D = some (.lst ((odd (s.cps.toList.take i)).map fun c => V.str ⟨#[c]⟩))) ?_ (fun _ _ _ _ => trivial) ?_ ?_
            · refine ⟨fun b o e => ?_, ?_⟩
              · rw [upd_ne (ne_of_none e hD)]
                exact e
              · rw [upd_same]
                rfl
            · rintro i x H1 H2 hi ⟨sm, hd⟩ ⟨rfl, c, hc, rfl⟩
              walk_at "hgo"
              refine ⟨rfl, ?_⟩
              walk_at "hgo"
              have hc' : s.cps.toList[i]? = some c := by
                rw [Array.getElem?_toList]
                exact hc
              have tk : s.cps.toList.take (i + 1) = s.cps.toList.take i ++ [c] := by
                rw [List.take_add_one, hc']
                rfl
              show (if (!decide (c ∈ letters.cps.toList)) = true then _ else _)
              by_cases m : c ∈ letters.cps.toList
              · refine g_false (by simp [m]) ?_
                refine ⟨sm, ?_⟩
                rw [tk, hd, odd_in m]
              · refine g_true (by simp [m]) ?_
                walk_at "hgo"
                refine ⟨_, hd, ?_, fun b o e => ?_, ?_⟩
                · rw [List.length_map]
                  have h1 : (odd (s.cps.toList.take i)).length ≤ (s.cps.toList.take i).length := List.length_filter_le _ _
                  rw [List.length_take] at h1
                  have h2 : (odd (s.cps.toList.take i)).length < 1000 := by
                    have : s.length = s.cps.size := rfl
                    omega
                  exact Nat.lt_of_lt_of_le h2 (by decide)
                · rw [upd_ne (ne_of_none e hD)]
                  exact sm b o e
                · rw [upd_same, tk, odd_out m, List.map_append]
                  rfl
            · rintro H1 ⟨sm, hd⟩
              walk_at "hgo"
              intro p hp
              have all : s.cps.toList.take s.cps.size = s.cps.toList := by
                rw [hl]
                exact List.take_length
              rw [all] at hd
              have hd1 := look_past (o := .lst []) (ne_of_none hd hp) hd
              refine g_eqD (.lst (SqL.of hd1) (dp_signs _)) (.lst (SqL.of upd_same) .nil) (shapedSigns fun c hc => strOk_all so c (List.mem_filter.mp hc).1) (by decide +kernel) ?_
              rw [eqvSigns]
              walk_at "hgo"
              refine k _ ?_
              intro b o e
              rw [upd_ne (ne_of_none (sm b o e) hp)]
              exact sm b o e
      · walk_at "hgo"
        have e : okV (.str s) = false := by
          have z : ¬ 0 < s.length := by
            have := of_decide_eq_false (Bool.eq_false_iff.mpr c1)
            omega
          show okS s = false
          unfold okS
          rw [decide_eq_false z]
          simp
        rw [e] at k
        exact k H (Same.refl H)
    | _ =>
      refine g_true rfl ?_
      walk_at "hgo"
      exact k H (Same.refl H)
end

theorem Pen.at {H : Hp} {q : Addr} {b : Nat} (p : Pen H q b) : ∃ xs, H q = some (.lst xs) := by
  obtain ⟨c, ns, z, left, h, _⟩ := p
  exact ⟨_, h⟩
theorem Pen.ne {H : Hp} {q p : Addr} {b : Nat} (h : Pen H q b) (hp : H p = none) : p ≠ q := by
  obtain ⟨xs, e⟩ := h.at
  exact (ne_of_none e hp).symm
theorem Pen.same {H H' : Hp} {q : Addr} {b : Nat} (h : Pen H q b) (s : Same H H') : Pen H' q b := by
  obtain ⟨c, ns, z, left, h1, h2, r⟩ := h
  exact ⟨c, ns, z, left, s _ _ h1, s _ _ h2, r⟩
theorem Pen.new {H : Hp} {q p : Addr} {b : Nat} {o : HO} (h : Pen H q b) (hp : H p = none) : Pen (upd H p o) q b := h.same fun x u e => by
  rw [upd_ne (ne_of_none e hp)]
  exact e
theorem Pen.more {H : Hp} {q : Addr} {b b' : Nat} (h : Pen H q b) (l : b ≤ b') : Pen H q b' := by
  obtain ⟨c, ns, z, left, h1, h2, z0, zb, r⟩ := h
  exact ⟨c, ns, z, left, h1, h2, z0, by omega, r⟩
/-- the pen at q and what was known of H -/
structure Led (q : Addr) (b : Nat) (H H' : Hp) : Prop where
  pen : Pen H' q b
  but : But q H H'
theorem Led.new {q p : Addr} {b : Nat} {H H' : Hp} {o : HO} (l : Led q b H H') (hp : H' p = none) : Led q b H (upd H' p o) := ⟨l.pen.new hp, l.but.new hp⟩
theorem Led.draw {q : Addr} {b : Nat} {H H1 H2 : Hp} (l : Led q b H H1) (p : Pen H2 q (b + 1)) (t : But q H1 H2) : Led q (b + 1) H H2 := ⟨p, l.but.trans t⟩
/-- what was new ahead of draws may be changed behind them -/
theorem Led.keep {q p : Addr} {b b3 : Nat} {H H3 H5 : Hp} {o : HO} (l : Led q b H H5) (P3 : Pen H3 q b3) (hp : H3 p = none) (t3 : But q H H3) (t5 : But q H3 H5) : Led q b H (upd H5 p o) := by
  have n := P3.ne hp
  have hH := t3.free n hp
  obtain ⟨c, ns, z, left, h1, h2, _⟩ := P3
  have npc : c ≠ p := ne_of_none h2 hp
  obtain ⟨x', y', h5⟩ := t5.cl c _ _ h1
  obtain ⟨⟨c', ns', z', left', g1, g2, r⟩, bt⟩ := l
  rw [h5] at g1
  cases g1
  refine ⟨⟨c, ns', z', left', ?_, ?_, r⟩, ?_, ?_⟩
  · rw [upd_ne n.symm]
    exact h5
  · rw [upd_ne npc]
    exact g2
  · intro a u na e
    rw [upd_ne (ne_of_none e hH)]
    exact bt.st a u na e
  · intro d x y e
    rw [upd_ne n.symm]
    exact bt.cl d x y e
theorem cut_ints (ns : List Int) (lo hi : Option Int) : ∃ ms : List Int, cutV (ns.map V.int) lo hi = ms.map V.int ∧ ms.length ≤ ns.length := by
  unfold cutV
  refine ⟨(ns.drop (HT.sIx (ns.map V.int).length 0 lo)).take (HT.sIx (ns.map V.int).length (ns.map V.int).length hi - HT.sIx (ns.map V.int).length 0 lo), ?_, ?_⟩
  · rw [List.map_take, List.map_drop]
  · rw [List.length_take, List.length_drop]
    omega
structure TxtP (mg : Str → Option Value) : Prop where
  list : mg "list" = none
  len : mg "len" = none
  range : mg "range" = none
structure Has (K : PySem.W.Frag) (mg : Str → Option Value) (fD : Addr) (fdD : FuncData) : Prop where
  g_law_draw : mg "_law_draw" = some (.ref fD)
def spPen (K : PySem.W.Frag) : Sp := fun vs H Q _ => ∃ (a : Addr) (ns : List Int), vs = [.ref a] ∧ SqL K H a (ns.map V.int) ∧ ns.length ≤ 63 ∧ ∀ (q : Addr) (H' : Hp), H q = none → Pen H' q 0 → Same H H' → Q (.ref q) H'
def spPick : Sp := fun vs H Q _ => ∃ (q l : Addr) (b : Nat) (xs : List V), vs = [.ref q, .ref l] ∧ Pen H q b ∧ b ≤ 100000 ∧ l ≠ q ∧ H l = some (.lst xs) ∧ xs ≠ [] ∧ xs.length ≤ 1000 ∧ ∀ (v : V) (H' : Hp), v ∈ xs → Pen H' q (b + 1) → But q H H' → Q v H'
def spGreat : Sp := fun vs H Q _ => ∃ (q : Addr) (m : Int) (b : Nat), vs = [.ref q, .int m] ∧ Pen H q b ∧ b ≤ 90000 ∧ 1 ≤ m ∧ m ≤ 100 ∧ ∀ (g : Int) (H' : Hp), g.natAbs ≤ 10 ^ 100 → Pen H' q (b + 2) → But q H H' → Q (.int g) H'
theorem pick_at {xs : List V} {d : Int} (h0 : 0 ≤ d) (h1 : d < (xs.length : Int)) : ∃ v, v ∈ xs ∧ atI xs d = some v := by
  obtain ⟨j, rfl⟩ : ∃ j : Nat, d = (j : Int) := ⟨d.toNat, by omega⟩
  have hj : j < xs.length := by omega
  exact ⟨xs[j], List.getElem_mem hj, atI_nat (List.getElem?_eq_getElem hj)⟩
section
variable {P : Program} {w : World} {K : PySem.W.Frag} {mg : Str → Option Value} {base : Heap}
theorem ok_law_pen {f : Addr} {fd : FuncData} (F : Fun K "_law_pen" "_law_pen" s_law_pen f fd) (T : TxtP mg) : FnOk P w K mg base CX0 1 f fd ["_law_script"] (spPen K) := by
  refine F.ok sc_law_pen (fun vs H Q E h => ?_) (fun cdv A outer s H vs Q E hr h => ?_)
  · obtain ⟨a, ns, rfl, _⟩ := h
    rfl
  · obtain ⟨a, ns, rfl, hS, len, k⟩ := h
    refine ⟨_, (pss_one (ps_ret (pe_lst (pa_cons (pe_callTy call_listL (by rfl) T.list (by decide +kernel) (pa_cons (pe_slice sl_list (pv 0) po_none (po_some pe_int)) pa_nil)) (pa_cons pe_int (pa_cons pe_int pa_nil)))))), ?_⟩
    try dsimp only [cxOf]
    walk_at "hgo"
    refine g_slL hS ?_
    intro p hp
    walk_at "hgo"
    refine g_listL (SqL.of upd_same) ?_
    intro c hc
    walk_at "hgo"
    intro q hq
    obtain ⟨ms, e, l⟩ := cut_ints ns none (some 63)
    have npc : p ≠ c := (gone_past hc).1.symm
    have hq1 := gone_past hq
    have hq2 := gone_past hq1.2
    walk_at "hgo"
    refine k q _ hq2.2 ⟨c, ms, 0, 0, upd_same, ?_, by omega, by omega, by omega, by omega⟩ ?_
    · rw [upd_ne hq1.1.symm, upd_same, e]
    · intro b o eb
      rw [upd_ne (ne_of_none eb hq2.2), upd_ne (ne_of_none eb (gone_past hc).2), upd_ne (ne_of_none eb hp)]
      exact eb
variable {f_law_draw : Addr} {fd_law_draw : FuncData}
theorem ok_law_pick {f : Addr} {fd : FuncData} (F : Fun K "_law_pick" "_law_pick" s_law_pick f fd) (TD : TxtD mg) (T : TxtP mg)
    (F_law_draw : Fun K "_law_draw" "_law_draw" s_law_draw f_law_draw fd_law_draw) (b_law_draw : Binds K fd_law_draw ["_law_pen_here", "_law_many"] []) (g_law_draw : mg "_law_draw" = some (.ref f_law_draw)) :
    FnOk P w K mg base CX0 2 f fd ["_law_pen_here", "_law_some"] spPick := by
  have G_law_draw : FnOk P w K mg base CX0 1 f_law_draw fd_law_draw ["_law_pen_here", "_law_many"] spDraw := ok_law_draw F_law_draw TD
  refine F.ok sc_law_pick (fun vs H Q E h => ?_) (fun cdv A outer s H vs Q E hr h => ?_)
  · obtain ⟨q, l, b, xs, rfl, _⟩ := h
    rfl
  · obtain ⟨q, l, b, xs, rfl, hP, hb, nlq, hl, ne, len, k⟩ := h
    refine ⟨_, (pss_one (ps_ret (pe_ix ix_list (pv 1) (pe_call G_law_draw (hr.mono (by decide)) (by rfl) g_law_draw F_law_draw.kp b_law_draw .nil pass0 (pa_cons (pv 0) (pa_cons (pe_callB call_lenL (by rfl) T.len (by decide +kernel) (pa_cons (pv 1) pa_nil)) pa_nil))) (fun _ _ => rfl)))), ?_⟩
    try dsimp only [cxOf]
    walk_at "hgo"
    have hn : 0 < xs.length := List.length_pos_iff.mpr ne
    refine ⟨q, (xs.length : Int), b, rfl, hP, hb, by omega, by omega, ?_⟩
    intro d H1 d0 d1 P1 t1
    walk_at "hgo"
    obtain ⟨v, hv, ha⟩ := pick_at d0 d1
    refine g_ixL (SqL.of (t1.st l _ nlq hl)) ha ?_
    walk_at "hgo"
    exact k v H1 hv P1 t1
theorem ok_law_great {f : Addr} {fd : FuncData} (F : Fun K "_law_great" "_law_great" s_law_great f fd) (TD : TxtD mg) (T : TxtP mg)
    (F_law_draw : Fun K "_law_draw" "_law_draw" s_law_draw f_law_draw fd_law_draw) (b_law_draw : Binds K fd_law_draw ["_law_pen_here", "_law_many"] []) (g_law_draw : mg "_law_draw" = some (.ref f_law_draw)) :
    FnOk P w K mg base CX0 2 f fd ["_law_pen_here", "_law_most"] spGreat := by
  have G_law_draw : FnOk P w K mg base CX0 1 f_law_draw fd_law_draw ["_law_pen_here", "_law_many"] spDraw := ok_law_draw F_law_draw TD
  refine F.ok sc_law_great (fun vs H Q E h => ?_) (fun cdv A outer s H vs Q E hr h => ?_)
  · obtain ⟨q, m, b, rfl, _⟩ := h
    rfl
  · obtain ⟨q, m, b, rfl, hP, hb, m1, m2, k⟩ := h
    refine ⟨_, (pss_cons (ps_set (i := 2) sc_law_great.nd rfl (Or.inl rfl) pe_int)
      (pss_cons (ps_for PassesOwn.never rfl (pi_range1 rfl T.range (pa_cons (pe_call G_law_draw (hr.mono (by decide)) (by rfl) g_law_draw F_law_draw.kp b_law_draw .nil pass0 (pa_cons (pv 0) (pa_cons (pv 1) pa_nil))) pa_nil)) (pg_name (i := 3) sc_law_great.nd rfl (Or.inl rfl)) (pss_one (ps_set (i := 2) sc_law_great.nd rfl (Or.inl rfl) (pe_op op_mul pe_int (pv 2)))))
      (pss_one (ps_ret (pe_op op_sub (pv 2) (pe_call G_law_draw (hr.mono (by decide)) (by rfl) g_law_draw F_law_draw.kp b_law_draw .nil pass0 (pa_cons (pv 0) (pa_cons pe_int pa_nil)))))))), ?_⟩
    try dsimp only [cxOf]
    walk_at "hline"
    walk_at "hline"
    refine ⟨q, m, b, rfl, hP, by omega, m1, by omega, ?_⟩
    intro d H1 d0 d1 P1 t1
    walk_at "hx"
    refine g_rng (by omega) (by omega) ?_
    refine for_range (n := d.toNat) (fun i σ' H' => (∃ y, σ' = [some (.ref q), some (.int m), some (.int (10 ^ i)), y]) ∧ H' = H1) ⟨⟨none, rfl⟩, rfl⟩ ?_ ?_
    · rintro i σ' H2 hi ⟨⟨y, rfl⟩, rfl⟩
      walk_at "hgo"
      refine ⟨⟨some (.int (0 + (i : Int))), ?_⟩, rfl⟩
      rw [Int.pow_succ, Int.mul_comm]
      rfl
    · rintro σ' H2 ⟨⟨y, rfl⟩, rfl⟩
      walk_at "hgo"
      refine ⟨q, 2, b + 1, rfl, P1, by omega, by decide, by decide, ?_⟩
      intro e H3 e0 e1 P3 t3
      walk_at "hgo"
      refine k _ H3 ?_ P3 (t1.trans t3)
      have h1 : (10 : Int) ^ d.toNat ≤ 10 ^ 100 := by
        have : (10 : Nat) ^ d.toNat ≤ 10 ^ 100 := Nat.pow_le_pow_right (by decide) (by omega)
        exact_mod_cast this
      have h0 : (1 : Int) ≤ 10 ^ d.toNat := by
        have : (1 : Nat) ≤ 10 ^ d.toNat := Nat.one_le_pow _ _ (by decide)
        exact_mod_cast this
      generalize (10 : Int) ^ d.toNat = g at h0 h1 ⊢
      have big : (10 : Int) ^ 100 = ((10 ^ 100 : Nat) : Int) := by norm_cast
      generalize hz : (10 : Nat) ^ 100 = z at big ⊢
      rw [big] at h1
      omega
end

/-- a text of signs that there are -/
structure Fine (s : Str) (n : Nat) : Prop where
  len : s.length ≤ n
  ok : PyData.strOk s = true
theorem fine_of {l : List Nat} {n : Nat} (h : l.length ≤ n) (a : ∀ c ∈ l, c < 0x110000) : Fine ⟨l.toArray⟩ n := by
  refine ⟨?_, ?_⟩
  · show l.toArray.size ≤ n
    rw [List.size_toArray]
    exact h
  · unfold PyData.strOk
    rw [← Array.all_toList, List.all_eq_true]
    intro c hc
    exact decide_eq_true (a c hc)
theorem Fine.at {s : Str} {n : Nat} (f : Fine s n) : ∀ c ∈ s.cps.toList, c < 0x110000 := by
  have h := f.ok
  unfold PyData.strOk at h
  rw [← Array.all_toList, List.all_eq_true] at h
  intro c hc
  exact of_decide_eq_true (h c hc)
theorem Fine.list {s : Str} {n : Nat} (f : Fine s n) : s.cps.toList.length ≤ n := by
  rw [Array.length_toList]
  exact f.len
theorem Fine.add {a b : Str} {n m : Nat} (f : Fine a n) (g : Fine b m) : Fine (a ++ b) (n + m) := by
  have e : a ++ b = ⟨(a.cps.toList ++ b.cps.toList).toArray⟩ := TL.ext_tl (TL.tl_append a b)
  rw [e]
  refine fine_of ?_ ?_
  · rw [List.length_append]
    exact Nat.add_le_add f.list g.list
  · intro c hc
    rcases List.mem_append.mp hc with h | h
    · exact f.at c h
    · exact g.at c h
theorem Fine.cut {a : Str} {n : Nat} (f : Fine a n) (lo hi : Option Int) : Fine (cutS a lo hi) n := by
  refine fine_of ?_ ?_
  · rw [List.length_take, List.length_drop]
    have := f.list
    omega
  · intro c hc
    exact f.at c (List.mem_of_mem_drop (List.mem_of_mem_take hc))
theorem letter_at {d : Int} (h0 : 0 ≤ d) (h1 : d < 26) : ∃ c, atI letters.cps.toList d = some c ∧ c < 0x110000 := by
  obtain ⟨j, rfl⟩ : ∃ j : Nat, d = (j : Int) := ⟨d.toNat, by omega⟩
  have hj : j < letters.cps.toList.length := by
    rw [letters_is, List.length_range']
    omega
  refine ⟨letters.cps.toList[j], atI_nat (List.getElem?_eq_getElem hj), ?_⟩
  have m := (mem_letters _).mp (List.getElem_mem hj)
  omega
theorem keepBut {q p : Addr} {b3 : Nat} {H3 H5 : Hp} {o : HO} (P3 : Pen H3 q b3) (hp : H3 p = none) (t5 : But q H3 H5) : But q H3 (upd H5 p o) := by
  have n := P3.ne hp
  refine ⟨fun a u na e => ?_, fun d x y e => ?_⟩
  · rw [upd_ne (ne_of_none e hp)]
    exact t5.st a u na e
  · rw [upd_ne n.symm]
    exact t5.cl d x y e
def spWord : Sp := fun vs H Q _ => ∃ (q : Addr) (b : Nat), vs = [.ref q] ∧ Pen H q b ∧ b ≤ 90000 ∧ ∀ (s : Str) (H' : Hp), Fine s 9 → Pen H' q (b + 11) → But q H H' → Q (.str s) H'
def spBent : Sp := fun vs H Q _ => ∃ (q : Addr) (b : Nat) (s : Str), vs = [.ref q, .str s] ∧ Pen H q b ∧ b ≤ 90000 ∧ Fine s 9 ∧ ∀ (s' : Str) (H' : Hp), Fine s' 100 → Pen H' q (b + 3) → But q H H' → Q (.str s') H'
section
variable {P : Program} {w : World} {K : PySem.W.Frag} {mg : Str → Option Value} {base : Heap}
variable {f_law_draw f_law_pick : Addr} {fd_law_draw fd_law_pick : FuncData}
theorem ok_law_word {f : Addr} {fd : FuncData} (F : Fun K "_law_word" "_law_word" s_law_word f fd) (TD : TxtD mg) (T : TxtP mg)
    (F_law_draw : Fun K "_law_draw" "_law_draw" s_law_draw f_law_draw fd_law_draw) (b_law_draw : Binds K fd_law_draw ["_law_pen_here", "_law_many"] []) (g_law_draw : mg "_law_draw" = some (.ref f_law_draw)) :
    FnOk P w K mg base CX0 2 f fd ["_law_pen_here"] spWord := by
  have G_law_draw : FnOk P w K mg base CX0 1 f_law_draw fd_law_draw ["_law_pen_here", "_law_many"] spDraw := ok_law_draw F_law_draw TD
  refine F.ok sc_law_word (fun vs H Q E h => ?_) (fun cdv A outer s H vs Q E hr h => ?_)
  · obtain ⟨q, b, rfl, _⟩ := h
    rfl
  · obtain ⟨q, b, rfl, hP, hb, k⟩ := h
    refine ⟨_, (pss_cons (ps_set (i := 1) sc_law_word.nd rfl (Or.inr rfl) pe_str)
      (pss_cons (ps_set (i := 2) sc_law_word.nd rfl (Or.inl rfl) (pe_ix ix_list (pe_lst (pa_cons pe_int (pa_cons pe_int (pa_cons pe_int (pa_cons pe_int (pa_cons pe_int (pa_cons (pe_op op_add pe_int (pe_call G_law_draw (hr.mono (by decide)) (by rfl) g_law_draw F_law_draw.kp b_law_draw .nil pass0 (pa_cons (pv 0) (pa_cons pe_int pa_nil)))) pa_nil))))))) (pe_call G_law_draw (hr.mono (by decide)) (by rfl) g_law_draw F_law_draw.kp b_law_draw .nil pass0 (pa_cons (pv 0) (pa_cons pe_int pa_nil))) (fun _ _ => rfl)))
      (pss_one (ps_ret (pe_joinJ pe_str (pe_lc (own := [("_law_k", 3)]) (g := gName 3) rfl sc_law_word.nd (pi_range1 rfl T.range (pa_cons (pv 2) pa_nil)) (blkOk_by (own := [("_law_k", 3)]) (N := N_law_word) (sc := defScope s_law_word) (by decide +kernel)) (fun _ _ _ _ _ => pg_name (i := 3) sc_law_word.nd rfl (Or.inl rfl)) (fun _ _ _ _ _ => pts_nil) (fun _ _ _ _ _ => (pe_ix ix_str (pv 1) (pe_call G_law_draw (hr.mono (by decide)) (by rfl) g_law_draw F_law_draw.kp b_law_draw .nil pass0 (pa_cons (pv 0) (pa_cons pe_int pa_nil))) (fun _ _ => rfl))))))))), ?_⟩
    try dsimp only [cxOf]
    walk_at "hgo"
    refine ⟨q, 8, b, rfl, hP, by omega, by decide, by decide, ?_⟩
    intro d H1 d0 d1 P1 t1
    walk_at "hgo"
    intro p hp
    have L1 : Led q (b + 1) H H1 := ⟨P1, t1⟩
    have L2' := L1.new (o := .lst [V.int 0, V.int 1, V.int 2, V.int 8, V.int 9, V.int (1 + d)]) hp
    have npq : p ≠ q := P1.ne hp
    walk_at "hgo"
    refine ⟨q, 6, b + 1, rfl, L2'.pen, by omega, by decide, by decide, ?_⟩
    intro e H3 e0 e1 P3 t3
    have L3 := L2'.draw P3 t3
    have hp3 : H3 p = some (.lst [V.int 0, V.int 1, V.int 2, V.int 8, V.int 9, V.int (1 + d)]) := t3.st p _ npq upd_same
    walk_at "hgo"
    obtain ⟨m, em, m0, m9⟩ : ∃ m : Int, atI [V.int 0, V.int 1, V.int 2, V.int 8, V.int 9, V.int (1 + d)] e = some (.int m) ∧ 0 ≤ m ∧ m ≤ 9 := by
      have h : e = 0 ∨ e = 1 ∨ e = 2 ∨ e = 3 ∨ e = 4 ∨ e = 5 := by omega
      rcases h with rfl | rfl | rfl | rfl | rfl | rfl
      · exact ⟨0, rfl, by omega, by omega⟩
      · exact ⟨1, rfl, by omega, by omega⟩
      · exact ⟨2, rfl, by omega, by omega⟩
      · exact ⟨8, rfl, by omega, by omega⟩
      · exact ⟨9, rfl, by omega, by omega⟩
      · exact ⟨1 + d, rfl, by omega, by omega⟩
    refine g_ixL (SqL.of hp3) em ?_
    walk_at "hgo"
    refine g_rng (by omega) (by omega) ?_
    intro D hD
    refine lc_range (n := m.toNat) (fun i H' => Led q (b + 2 + i) H H' ∧ But q H3 H' ∧ ∃ l : List Nat, l.length = i ∧ (∀ c ∈ l, c < 0x110000) ∧ H' D = some (.lst (l.map fun c => V.str ⟨#[c]⟩))) ⟨L3.new hD, (But.self (q := q) (H := H3)).new hD, [], rfl, fun _ h => (nomatch h), upd_same⟩ ?_ ?_
    · rintro i H4 hi ⟨L4, t45, l, ll, lo, hl⟩
      walk_at "hgo"
      refine ⟨rfl, ?_⟩
      walk_at "hgo"
      refine ⟨q, 26, b + 2 + i, rfl, L4.pen, by omega, by decide, by decide, ?_⟩
      intro x H5 x0 x1 P5 t5
      have L5 := L4.draw P5 t5
      obtain ⟨c, hc, hcc⟩ := letter_at x0 x1
      walk_at "hgo"
      refine g_ixS (by decide +kernel) hc ?_
      have nD : D ≠ q := L3.pen.ne hD
      refine ⟨_, t5.st D _ nD hl, ?_, ?_, ?_, ?_⟩
      · rw [List.length_map, ll]
        exact Nat.lt_of_lt_of_le (show i < 1000 by omega) (by decide)
      · exact L5.keep L3.pen hD L3.but (t45.trans t5)
      · exact keepBut L3.pen hD (t45.trans t5)
      · refine ⟨l ++ [c], ?_, ?_, ?_⟩
        · rw [List.length_append, ll]
          rfl
        · intro z hz
          rcases List.mem_append.mp hz with h | h
          · exact lo z h
          · rw [List.mem_singleton.mp h]
            exact hcc
        · rw [upd_same, List.map_append]
          rfl
    · rintro H4 ⟨L4, t45, l, ll, lo, hl⟩
      walk_at "hgo"
      have e1 : l.map (fun c => V.str ⟨#[c]⟩) = (l.map fun c => (⟨#[c]⟩ : Str)).map V.str := by
        rw [List.map_map]
        rfl
      rw [e1] at hl
      have e2 : ((l.map fun c => (⟨#[c]⟩ : Str)).map (·.length)).sum = l.length := by
        clear hl e1 lo ll
        induction l with
        | nil => rfl
        | cons c r ih =>
          rw [List.map_cons, List.map_cons, List.sum_cons, ih, List.length_cons]
          show 1 + r.length = _
          omega
      refine g_join (SqL.of hl) ?_ ?_
      · rw [e2]
        show l.length + _ * 0 ≤ _
        omega
      · rw [join_signs]
        walk_at "hgo"
        exact k _ H4 (fine_of (by omega) lo) (L4.pen.more (by omega)) L4.but
theorem ok_law_bent {f : Addr} {fd : FuncData} (F : Fun K "_law_bent" "_law_bent" s_law_bent f fd) (TD : TxtD mg) (T : TxtP mg)
    (F_law_draw : Fun K "_law_draw" "_law_draw" s_law_draw f_law_draw fd_law_draw) (b_law_draw : Binds K fd_law_draw ["_law_pen_here", "_law_many"] []) (g_law_draw : mg "_law_draw" = some (.ref f_law_draw))
    (F_law_pick : Fun K "_law_pick" "_law_pick" s_law_pick f_law_pick fd_law_pick) (b_law_pick : Binds K fd_law_pick ["_law_pen_here", "_law_some"] []) (g_law_pick : mg "_law_pick" = some (.ref f_law_pick)) :
    FnOk P w K mg base CX0 3 f fd ["_law_pen_here", "_law_word_here"] spBent := by
  have G_law_draw : FnOk P w K mg base CX0 1 f_law_draw fd_law_draw ["_law_pen_here", "_law_many"] spDraw := ok_law_draw F_law_draw TD
  have G_law_pick : FnOk P w K mg base CX0 2 f_law_pick fd_law_pick ["_law_pen_here", "_law_some"] spPick := ok_law_pick F_law_pick TD T F_law_draw b_law_draw g_law_draw
  refine F.ok sc_law_bent (fun vs H Q E h => ?_) (fun cdv A outer s H vs Q E hr h => ?_)
  · obtain ⟨q, b, z, rfl, _⟩ := h
    rfl
  · obtain ⟨q, b, z, rfl, hP, hb, fz, k⟩ := h
    refine ⟨_, (pss_cons (ps_set (i := 2) sc_law_bent.nd rfl (Or.inl rfl) (pe_call G_law_draw (hr.mono (by decide)) (by rfl) g_law_draw F_law_draw.kp b_law_draw .nil pass0 (pa_cons (pv 0) (pa_cons (pe_op op_add (pe_callB call_lenS (by rfl) T.len (by decide +kernel) (pa_cons (pv 1) pa_nil)) pe_int) pa_nil))))
      (pss_cons (ps_set (i := 3) sc_law_bent.nd rfl (Or.inl rfl) (pe_call G_law_pick (hr.mono (by decide)) (by rfl) g_law_pick F_law_pick.kp b_law_pick .nil pass0 (pa_cons (pv 0) (pa_cons (pe_lst (pa_cons pe_str (pa_cons pe_str (pa_cons pe_str (pa_cons pe_str (pa_cons pe_str (pa_cons pe_str (pa_cons pe_str (pa_cons pe_str (pa_cons pe_str (pa_cons pe_str (pa_cons pe_str (pa_cons pe_str pa_nil))))))))))))) pa_nil))))
      (pss_one (ps_ret (pe_ix ix_list (pe_lst (pa_cons (pv 1) (pa_cons (pe_op op_addS (pe_op op_addS (pe_slice sl_str (pv 1) po_none (po_some (pv 2))) (pv 3)) (pe_slice sl_str (pv 1) (po_some (pv 2)) po_none)) (pa_cons (pe_op op_addS (pe_op op_addS (pe_slice sl_str (pv 1) po_none (po_some (pv 2))) (pv 3)) (pe_slice sl_str (pv 1) (po_some (pe_op op_add (pv 2) pe_int)) po_none)) pa_nil)))) (pe_call G_law_draw (hr.mono (by decide)) (by rfl) g_law_draw F_law_draw.kp b_law_draw .nil pass0 (pa_cons (pv 0) (pa_cons pe_int pa_nil))) (fun _ _ => rfl)))))), ?_⟩
    try dsimp only [cxOf]
    walk_at "hgo"
    refine g_lenS (small_of (by have := fz.len; omega)) ?_
    walk_at "hgo"
    refine ⟨q, _, b, rfl, hP, by omega, by omega, by have := fz.len; omega, ?_⟩
    intro d H1 d0 d1 P1 t1
    have L1 : Led q (b + 1) H H1 := ⟨P1, t1⟩
    walk_at "hgo"
    intro p hp
    have L2' := L1.new (o := .lst [V.str (Str.ofString " "), V.str (Str.ofString "A"), V.str (Str.ofString "Z"), V.str (Str.ofString "0"), V.str (Str.ofString "_"), V.str (Str.ofString "-"), V.str (Str.ofString "\n"), V.str (Str.ofString "="), V.str (Str.ofString ">"), V.str (Str.ofString "."), V.str (Str.ofString "`"), V.str (Str.ofString "{")]) hp
    walk_at "hgo"
    refine ⟨q, p, b + 1, _, rfl, L2'.pen, by omega, P1.ne hp, upd_same, by simp, by simp, ?_⟩
    intro v H3 hv P3 t3
    have L3 := L2'.draw P3 t3
    obtain ⟨g, rfl, fg⟩ : ∃ g, v = V.str g ∧ Fine g 1 := by
      simp only [List.mem_cons, List.not_mem_nil, or_false] at hv
      rcases hv with rfl | rfl | rfl | rfl | rfl | rfl | rfl | rfl | rfl | rfl | rfl | rfl
      all_goals exact ⟨_, rfl, by decide +kernel, by decide +kernel⟩
    have lz := fz.len
    have lg := fg.len
    have f1 := ((fz.cut none (some d)).add fg).add (fz.cut (some d) none)
    have f2 := ((fz.cut none (some d)).add fg).add (fz.cut (some (d + 1)) none)
    have z0 := cutS_length z none (some d)
    have z1 := cutS_length z (some d) none
    have z2 := cutS_length z (some (d + 1)) none
    have z3 := ((fz.cut none (some d)).add fg).len
    walk_at "hgo"
    refine g_slS (small_of (by omega)) ?_
    walk_at "hgo"
    refine g_addS (small_of (by omega)) ?_
    walk_at "hgo"
    refine g_slS (small_of (by omega)) ?_
    walk_at "hgo"
    refine g_addS (small_of (by omega)) ?_
    walk_at "hgo"
    refine g_slS (small_of (by omega)) ?_
    walk_at "hgo"
    refine g_addS (small_of (by omega)) ?_
    walk_at "hgo"
    refine g_slS (small_of (by omega)) ?_
    walk_at "hgo"
    refine g_addS (small_of (by omega)) ?_
    walk_at "hgo"
    intro r hr3
    have L4 := L3.new (o := .lst [V.str z, V.str (cutS z none (some d) ++ g ++ cutS z (some d) none), V.str (cutS z none (some d) ++ g ++ cutS z (some (d + 1)) none)]) hr3
    have nr := P3.ne hr3
    walk_at "hgo"
    refine ⟨q, 3, b + 2, rfl, L4.pen, by omega, by decide, by decide, ?_⟩
    intro e H5 e0 e1 P5 t5
    have L5 := L4.draw P5 t5
    have hp5 := t5.st r _ nr upd_same
    walk_at "hgo"
    obtain ⟨y, ey, fy⟩ : ∃ y : Str, atI [V.str z, V.str (cutS z none (some d) ++ g ++ cutS z (some d) none), V.str (cutS z none (some d) ++ g ++ cutS z (some (d + 1)) none)] e = some (.str y) ∧ Fine y 100 := by
      have h : e = 0 ∨ e = 1 ∨ e = 2 := by omega
      rcases h with rfl | rfl | rfl
      · exact ⟨_, rfl, by have := fz.len; omega, fz.ok⟩
      · exact ⟨_, rfl, by have := f1.len; omega, f1.ok⟩
      · exact ⟨_, rfl, by have := f2.len; omega, f2.ok⟩
    refine g_ixL (SqL.of hp5) ey ?_
    walk_at "hgo"
    exact k y H5 fy L5.pen L5.but
end

/-- a value of the law that is not the pen -/
def Good (K : PySem.W.Frag) (q : Addr) (H : Hp) (v : V) : Prop := ∃ n, Kd K H v n ∧ v ≠ .ref q
theorem Kd.same {K : PySem.W.Frag} {H H' : Hp} {v : V} {n : String} (h : Kd K H v n) (s : Same H H') : Kd K H' v n := by
  cases h with
  | non => exact .non
  | bl b => exact .bl b
  | int i => exact .int i
  | str z a b => exact .str z a b
  | lst e => exact .lst (s _ _ e)
  | tup e => exact .tup (s _ _ e)
  | dK e => exact .dK (s _ _ e)
theorem Good.but {K : PySem.W.Frag} {q : Addr} {H H' : Hp} {v : V} (g : Good K q H v) (b : But q H H') : Good K q H' v := by
  obtain ⟨n, h, ne⟩ := g
  have na : ∀ a, v = .ref a → a ≠ q := fun a e z => ne (by rw [e, z])
  cases h with
  | non => exact ⟨_, .non, ne⟩
  | bl x => exact ⟨_, .bl x, ne⟩
  | int i => exact ⟨_, .int i, ne⟩
  | str z x y => exact ⟨_, .str z x y, ne⟩
  | lst e => exact ⟨_, .lst (b.st _ _ (na _ rfl) e), ne⟩
  | tup e => exact ⟨_, .tup (b.st _ _ (na _ rfl) e), ne⟩
  | dK e => exact ⟨_, .dK (b.st _ _ (na _ rfl) e), ne⟩
theorem text_len {z : Int} (h : z.natAbs.log2 < 1920) : (Str.ofString (toString z)).length ≤ 10000 := by
  have e := int_text_length_le (k := 1920) (by decide) h
  have l : (Str.ofString (toString z)).length = (toString z).length := by
    rw [Str.ofString_eq_toList]
    show ((toString z).toList.map Char.toNat).toArray.size = _
    rw [List.size_toArray, List.length_map, String.length_toList]
  rw [l]
  omega
theorem text_ok (s : String) : PyData.strOk (Str.ofString s) = true := by
  rw [Str.ofString_eq_toList]
  unfold PyData.strOk
  rw [← Array.all_toList, List.all_eq_true]
  intro c hc
  have hc' : c ∈ s.toList.map Char.toNat := hc
  obtain ⟨ch, _, rfl⟩ := List.mem_map.mp hc'
  refine decide_eq_true ?_
  have v := ch.valid
  show ch.val.toNat < 1114112
  rcases v with h | h
  · exact Nat.lt_of_lt_of_le h (by decide)
  · exact h.2
structure TxtL (mg : Str → Option Value) : Prop where
  str : mg "str" = none
  repr : mg "repr" = none
  range : mg "range" = none
def spLaw (K : PySem.W.Frag) : Sp := fun vs H Q _ => ∃ (a : Addr) (ns : List Int), vs = [.ref a] ∧ SqL K H a (ns.map V.int) ∧ ns.length ≤ 63 ∧ ∀ H', Q (.bl true) H'
theorem show2 (b : Bool) : PyData.showable (.list [.bool b, .bool b]) = true ∧ PyData.hasDict (.list [.bool b, .bool b]) = false ∧ PyData.depth (.list [.bool b, .bool b]) ≤ 40 ∧ (PyData.shown (.list [.bool b, .bool b])).length ≤ sizeLine := by
  cases b <;> decide +kernel
theorem dp2 {K : PySem.W.Frag} {H : Hp} {p : Addr} {b : Bool} (h : H p = some (.lst [.bl b, .bl b])) : Dp K H (.ref p) (.list [.bool b, .bool b]) := .lst (SqL.of h) (.cons (.bl b) (.cons (.bl b) .nil))
section
variable {P : Program} {w : World} {K : PySem.W.Frag} {mg : Str → Option Value} {base : Heap}
variable {f_law_pen f_law_draw f_law_pick f_law_word f_law_bent f_law_great f_law_is_word f_law_is_whole f_is_name f_is_integer : Addr} {fd_law_pen fd_law_draw fd_law_pick fd_law_word fd_law_bent fd_law_great fd_law_is_word fd_law_is_whole fd_is_name fd_is_integer : FuncData}
theorem ok_law {f : Addr} {fd : FuncData} (F : Fun K "law" "law" s_law f fd) (TD : TxtD mg) (TP : TxtP mg) (TN : TxtN mg) (T : TxtL mg)
    (F_law_pen : Fun K "_law_pen" "_law_pen" s_law_pen f_law_pen fd_law_pen) (b_law_pen : Binds K fd_law_pen ["_law_script"] []) (g_law_pen : mg "_law_pen" = some (.ref f_law_pen))
    (F_law_draw : Fun K "_law_draw" "_law_draw" s_law_draw f_law_draw fd_law_draw) (b_law_draw : Binds K fd_law_draw ["_law_pen_here", "_law_many"] []) (g_law_draw : mg "_law_draw" = some (.ref f_law_draw))
    (F_law_pick : Fun K "_law_pick" "_law_pick" s_law_pick f_law_pick fd_law_pick) (b_law_pick : Binds K fd_law_pick ["_law_pen_here", "_law_some"] []) (g_law_pick : mg "_law_pick" = some (.ref f_law_pick))
    (F_law_word : Fun K "_law_word" "_law_word" s_law_word f_law_word fd_law_word) (b_law_word : Binds K fd_law_word ["_law_pen_here"] []) (g_law_word : mg "_law_word" = some (.ref f_law_word))
    (F_law_bent : Fun K "_law_bent" "_law_bent" s_law_bent f_law_bent fd_law_bent) (b_law_bent : Binds K fd_law_bent ["_law_pen_here", "_law_word_here"] []) (g_law_bent : mg "_law_bent" = some (.ref f_law_bent))
    (F_law_great : Fun K "_law_great" "_law_great" s_law_great f_law_great fd_law_great) (b_law_great : Binds K fd_law_great ["_law_pen_here", "_law_most"] []) (g_law_great : mg "_law_great" = some (.ref f_law_great))
    (F_law_is_word : Fun K "_law_is_word" "_law_is_word" s_law_is_word f_law_is_word fd_law_is_word) (b_law_is_word : Binds K fd_law_is_word ["_law_thing"] []) (g_law_is_word : mg "_law_is_word" = some (.ref f_law_is_word))
    (F_law_is_whole : Fun K "_law_is_whole" "_law_is_whole" s_law_is_whole f_law_is_whole fd_law_is_whole) (b_law_is_whole : Binds K fd_law_is_whole ["_law_thing"] []) (g_law_is_whole : mg "_law_is_whole" = some (.ref f_law_is_whole))
    (F_is_name : Fun K "is_name" "is_name" s_is_name f_is_name fd_is_name) (b_is_name : Binds K fd_is_name ["value"] []) (kb_is_name : KBinds K fd_is_name ["value"] ["value"] (fun us ws => us ++ ws) (fun vs zs => vs ++ zs)) (g_is_name : mg "is_name" = some (.ref f_is_name))
    (F_is_integer : Fun K "is_integer" "is_integer" s_is_integer f_is_integer fd_is_integer) (b_is_integer : Binds K fd_is_integer ["value"] []) (kb_is_integer : KBinds K fd_is_integer ["value"] ["value"] (fun us ws => us ++ ws) (fun vs zs => vs ++ zs)) (g_is_integer : mg "is_integer" = some (.ref f_is_integer)) :
    FnG P w K mg base CX0 5 f fd ["_law_script"] (spLaw K) := by
  have G_law_pen : FnOk P w K mg base CX0 1 f_law_pen fd_law_pen ["_law_script"] (spPen K) := ok_law_pen F_law_pen TP
  have G_law_pick : FnOk P w K mg base CX0 2 f_law_pick fd_law_pick ["_law_pen_here", "_law_some"] spPick := ok_law_pick F_law_pick TD TP F_law_draw b_law_draw g_law_draw
  have G_law_word : FnOk P w K mg base CX0 2 f_law_word fd_law_word ["_law_pen_here"] spWord := ok_law_word F_law_word TD TP F_law_draw b_law_draw g_law_draw
  have G_law_great : FnOk P w K mg base CX0 2 f_law_great fd_law_great ["_law_pen_here", "_law_most"] spGreat := ok_law_great F_law_great TD TP F_law_draw b_law_draw g_law_draw
  have G_law_bent : FnOk P w K mg base CX0 3 f_law_bent fd_law_bent ["_law_pen_here", "_law_word_here"] spBent := ok_law_bent F_law_bent TD TP F_law_draw b_law_draw g_law_draw F_law_pick b_law_pick g_law_pick
  have G_law_is_word : FnOk P w K mg base CX0 1 f_law_is_word fd_law_is_word ["_law_thing"] (spIs K okV) := ok_law_is_word F_law_is_word TN
  have G_law_is_whole : FnOk P w K mg base CX0 1 f_law_is_whole fd_law_is_whole ["_law_thing"] (spIs K wholeV) := ok_law_is_whole F_law_is_whole TN
  have G_is_name : FnOk P w K mg base CX0 1 f_is_name fd_is_name ["value"] (spIs K okV) := ok_is_name F_is_name TN
  have G_is_integer : FnOk P w K mg base CX0 1 f_is_integer fd_is_integer ["value"] (spIs K wholeV) := ok_is_integer F_is_integer TN
  refine fnG F sc_law (fun vs H Q E h => ?_) (fun cdv A outer s H vs Q E hg hr h => ?_)
  · obtain ⟨a, ns, rfl, _⟩ := h
    rfl
  · obtain ⟨a, ns, rfl, hS, len, k⟩ := h
    refine ⟨_, (pss_cons (ps_set (i := 1) sc_law.nd rfl (Or.inl rfl) (pe_call G_law_pen (hr.mono (by decide)) (by rfl) g_law_pen F_law_pen.kp b_law_pen .nil pass0 (pa_cons (pv 0) pa_nil)))
      (pss_cons (ps_for PassesOwn.never rfl (pi_range1 rfl T.range (pa_cons pe_int pa_nil)) (pg_name (i := 2) sc_law.nd rfl (Or.inl rfl)) (pss_cons (ps_set (i := 3) sc_law.nd rfl (Or.inl rfl) (pe_op op_mul (pe_call G_law_pick (hr.mono (by decide)) (by rfl) g_law_pick F_law_pick.kp b_law_pick .nil pass0 (pa_cons (pv 1) (pa_cons (pe_lst (pa_cons pe_int (pa_cons (pe_un un_neg pe_int) pa_nil))) pa_nil))) (pe_call G_law_great (hr.mono (by decide)) (by rfl) g_law_great F_law_great.kp b_law_great .nil pass0 (pa_cons (pv 1) (pa_cons pe_int pa_nil)))))
      (pss_cons (ps_set (i := 4) sc_law.nd rfl (Or.inl rfl) (pe_call G_law_pick (hr.mono (by decide)) (by rfl) g_law_pick F_law_pick.kp b_law_pick .nil pass0 (pa_cons (pv 1) (pa_cons (pe_lst (pa_cons pe_non (pa_cons pe_bl (pa_cons pe_bl (pa_cons (pe_tup pa_nil) (pa_cons (pe_tup (pa_cons pe_str pa_nil)) (pa_cons (pe_lst (pa_cons pe_str pa_nil)) (pa_cons (pe_lst pa_nil) (pa_cons pe_dnewK (pa_cons (pe_disp (pps_cons pe_str pe_int pps_nil) (by rfl) (by rfl) (fun z => by cases z) (by decide)) (pa_cons pe_str (pa_cons pe_str (pa_cons pe_str (pa_cons pe_str (pa_cons pe_str pa_nil))))))))))))))) pa_nil))))
      (pss_cons (ps_set (i := 5) sc_law.nd rfl (Or.inl rfl) (pe_call G_law_word (hr.mono (by decide)) (by rfl) g_law_word F_law_word.kp b_law_word .nil pass0 (pa_cons (pv 1) pa_nil)))
      (pss_one (ps_for PassesOwn.never rfl (pi_list (pe_lst (pa_cons (pv 5) (pa_cons (pe_call G_law_bent (hr.mono (by decide)) (by rfl) g_law_bent F_law_bent.kp b_law_bent .nil pass0 (pa_cons (pv 1) (pa_cons (pv 5) pa_nil))) (pa_cons (pv 4) (pa_cons (pv 3) (pa_cons (pe_lst (pa_cons (pv 5) pa_nil)) (pa_cons (pe_callTy call_strI (by rfl) T.str (by decide +kernel) (pa_cons (pv 3) pa_nil)) pa_nil)))))))) (pg_name (i := 6) sc_law.nd rfl (Or.inl rfl)) (pss_cons (ps_if (pt_cmpR op_ne (pe_callB (call_repr hg (hr.units)) (by rfl) T.repr (by decide +kernel) (pa_cons (pe_lst (pa_cons (pe_call G_is_name (hr.mono (by decide)) (by rfl) g_is_name F_is_name.kp b_is_name .nil pass0 (pa_cons (pv 6) pa_nil)) (pa_cons (pe_callK0 G_is_name (hr.mono (by decide)) (by rfl) g_is_name F_is_name.kp kb_is_name pass0 (pk_cons (pv 6) pk_nil)) pa_nil))) pa_nil)) (pe_callB (call_repr hg (hr.units)) (by rfl) T.repr (by decide +kernel) (pa_cons (pe_op op_rep (pe_lst (pa_cons (pe_call G_law_is_word (hr.mono (by decide)) (by rfl) g_law_is_word F_law_is_word.kp b_law_is_word .nil pass0 (pa_cons (pv 6) pa_nil)) pa_nil)) pe_int) pa_nil)) (nomark _)) (pss_one (ps_ret pe_bl)) pss_nil)
      (pss_one (ps_if (pt_cmpR op_ne (pe_callB (call_repr hg (hr.units)) (by rfl) T.repr (by decide +kernel) (pa_cons (pe_lst (pa_cons (pe_call G_is_integer (hr.mono (by decide)) (by rfl) g_is_integer F_is_integer.kp b_is_integer .nil pass0 (pa_cons (pv 6) pa_nil)) (pa_cons (pe_callK0 G_is_integer (hr.mono (by decide)) (by rfl) g_is_integer F_is_integer.kp kb_is_integer pass0 (pk_cons (pv 6) pk_nil)) pa_nil))) pa_nil)) (pe_callB (call_repr hg (hr.units)) (by rfl) T.repr (by decide +kernel) (pa_cons (pe_op op_rep (pe_lst (pa_cons (pe_call G_law_is_whole (hr.mono (by decide)) (by rfl) g_law_is_whole F_law_is_whole.kp b_law_is_whole .nil pass0 (pa_cons (pv 6) pa_nil)) pa_nil)) pe_int) pa_nil)) (nomark _)) (pss_one (ps_ret pe_bl)) pss_nil)))))))))
      (pss_cons (ps_setLc (i := 7) (own := [("_law_word_here", 5)]) (g := gName 5) rfl sc_law.nd rfl rfl (sw_true rfl rfl rfl (by decide +kernel)) (pi_tup (pe_tup (pa_cons pe_str (pa_cons pe_str (pa_cons pe_str (pa_cons pe_str (pa_cons pe_str (pa_cons pe_str (pa_cons pe_str (pa_cons pe_str pa_nil)))))))))) (blkOk_by (own := [("_law_word_here", 5)]) (N := N_law) (sc := defScope s_law) (by decide +kernel)) (fun _ _ _ _ _ => pg_name (i := 5) sc_law.nd rfl (Or.inl rfl)) (fun _ _ _ _ _ => pts_nil) (fun _ _ _ _ _ => (pe_call G_is_name (hr.mono (by decide)) (by rfl) g_is_name F_is_name.kp b_is_name .nil pass0 (pa_cons (pv 5) pa_nil))))
      (pss_one (ps_ret (pe_and (pe_cmpR (op_eqD (hr.units)) (pv 7) (pe_op op_cat (pe_op op_rep (pe_lst (pa_cons pe_bl pa_nil)) pe_int) (pe_lst (pa_cons pe_bl (pa_cons pe_bl (pa_cons pe_bl (pa_cons pe_bl (pa_cons pe_bl pa_nil))))))) (nomark _)) (pe_and (pe_call G_is_integer (hr.mono (by decide)) (by rfl) g_is_integer F_is_integer.kp b_is_integer .nil pass0 (pa_cons pe_int pa_nil)) (pe_one (pe_not (pe_call G_is_integer (hr.mono (by decide)) (by rfl) g_is_integer F_is_integer.kp b_is_integer .nil pass0 (pa_cons pe_str pa_nil))))))))))), ?_⟩
    try dsimp only [cxOf]
    walk_at "hline"
    refine ⟨a, ns, rfl, hS, len, ?_⟩
    intro q H1 nq P1 s1
    walk_at "hx"
    walk_at "hline"
    refine g_rng (by decide) (by decide) ?_
    refine for_range (n := 20) (fun i σ' H' => (∃ y2 y3 y4 y5 y6, σ' = [some (.ref a), some (.ref q), y2, y3, y4, y5, y6, none]) ∧ Pen H' q (40 * i)) ⟨⟨none, none, none, none, none, rfl⟩, P1⟩ ?_ ?_
    · rintro i σ' H2 hi ⟨⟨y2, y3, y4, y5, y6, rfl⟩, P2⟩
      walk_at "hx"
      walk_at "hline"
      intro p1 hp1
      walk_at "hx"
      refine ⟨q, p1, 40 * i, _, rfl, P2.new hp1, by omega, P2.ne hp1, upd_same, by simp, by simp, ?_⟩
      intro v H3 hv P3 t3
      obtain ⟨s, rfl, hs⟩ : ∃ s : Int, v = V.int s ∧ (s = 1 ∨ s = -1) := by
        simp only [List.mem_cons, List.not_mem_nil, or_false] at hv
        rcases hv with rfl | rfl
        · exact ⟨1, rfl, .inl rfl⟩
        · exact ⟨-1, rfl, .inr rfl⟩
      walk_at "hx"
      refine ⟨q, 60, 40 * i + 1, rfl, P3, by omega, by decide, by decide, ?_⟩
      intro g H4 gb P4 t4
      walk_at "hx"
      have zb : (s * g).natAbs ≤ 10 ^ 100 := by
        rcases hs with rfl | rfl
        · rw [Int.one_mul]
          exact gb
        · rw [Int.neg_mul, Int.one_mul, Int.natAbs_neg]
          exact gb
      generalize s * g = z at zb ⊢
      walk_at "hline"
      intro r1 n1
      walk_at "hx"
      intro r2 n2
      walk_at "hx"
      intro r3 n3
      walk_at "hx"
      intro r4 n4
      walk_at "hx"
      intro r5 n5
      walk_at "hx"
      intro r6 n6
      walk_at "hx"
      refine g_pair1 (Sum.inr (Str.ofString "a")) rfl upd_same ?_
      walk_at "hx"
      rw [upd_upd]
      intro r7 n7
      walk_at "hx"
      have P5 := P4.new (o := .tup []) n1
      have m1 := P4.ne n1
      have P6 := P5.new (o := .tup [V.str (Str.ofString "a")]) n2
      have m2 := P5.ne n2
      have P7 := P6.new (o := .lst [V.str (Str.ofString "a")]) n3
      have m3 := P6.ne n3
      have P8 := P7.new (o := .lst []) n4
      have m4 := P7.ne n4
      have P9 := P8.new (o := .dK []) n5
      have m5 := P8.ne n5
      have P10 := P9.new (o := .dK (mergeK [] [(Sum.inr (Str.ofString "a"), V.int 1)])) n6
      have m6 := P9.ne n6
      have m7 := P10.ne n7
      refine ⟨q, r7, 40 * i + 3, _, rfl, P10.new n7, by omega, m7, upd_same, by simp, by simp, ?_⟩
      intro v H5 hv P11 t5
      have gv : Good K q H5 v := by
        refine Good.but ?_ t5
        simp only [List.mem_cons, List.not_mem_nil, or_false] at hv
        rcases hv with rfl | rfl | rfl | rfl | rfl | rfl | rfl | rfl | rfl | rfl | rfl | rfl | rfl | rfl
        · exact ⟨_, .non, fun z => nomatch z⟩
        · exact ⟨_, .bl _, fun z => nomatch z⟩
        · exact ⟨_, .bl _, fun z => nomatch z⟩
        · exact ⟨_, .tup (xs := []) (by walk_at "hlook"), fun z => m1 (V.ref.inj z)⟩
        · exact ⟨_, .tup (xs := [V.str (Str.ofString "a")]) (by walk_at "hlook"), fun z => m2 (V.ref.inj z)⟩
        · exact ⟨_, .lst (xs := [V.str (Str.ofString "a")]) (by walk_at "hlook"), fun z => m3 (V.ref.inj z)⟩
        · exact ⟨_, .lst (xs := []) (by walk_at "hlook"), fun z => m4 (V.ref.inj z)⟩
        · exact ⟨_, .dK (kvs := []) (by walk_at "hlook"), fun z => m5 (V.ref.inj z)⟩
        · exact ⟨_, .dK (kvs := mergeK [] [(Sum.inr (Str.ofString "a"), V.int 1)]) (by walk_at "hlook"), fun z => m6 (V.ref.inj z)⟩
        all_goals exact ⟨_, .str _ (by decide +kernel) (by decide +kernel), fun z => nomatch z⟩
      clear n1 n2 n3 n4 n5 n6 n7 m1 m2 m3 m4 m5 m6 m7 P5 P6 P7 P8 P9 P10 t5 hv
      walk_at "hx"
      walk_at "hline"
      refine ⟨q, _, rfl, P11, by omega, ?_⟩
      intro wd H6 fw P12 t6
      walk_at "hx"
      refine ⟨q, _, wd, rfl, P12, by omega, fw, ?_⟩
      intro wb H7 fb P13 t7
      have gv7 : Good K q H7 v := (gv.but t6).but t7
      walk_at "hx"
      intro l1 k1
      walk_at "hx"
      have zlog : z.natAbs.log2 < 1920 := by
        by_cases h : z.natAbs = 0
        · rw [h]
          decide
        · exact (Nat.log2_lt h).mpr (Nat.lt_of_le_of_lt zb (by decide +kernel))
      refine g_strI zlog ?_
      walk_at "hx"
      intro l2 k2
      walk_at "hx"
      have P14 := P13.new (o := .lst [V.str wd]) k1
      have P15 := P14.new (o := .lst [V.str wd, V.str wb, v, V.int z, V.ref l1, V.str (toString z)]) k2
      have e2 : upd (upd H7 l1 (.lst [V.str wd])) l2 (.lst [V.str wd, V.str wb, v, V.int z, V.ref l1, V.str (toString z)]) l2 = some (.lst [V.str wd, V.str wb, v, V.int z, V.ref l1, V.str (toString z)]) := upd_same
      have all : ∀ x ∈ [V.str wd, V.str wb, v, V.int z, V.ref l1, V.str (toString z)], ∃ n, Kd K (upd (upd H7 l1 (.lst [V.str wd])) l2 (.lst [V.str wd, V.str wb, v, V.int z, V.ref l1, V.str (toString z)])) x n := by
        intro x hx
        simp only [List.mem_cons, List.not_mem_nil, or_false] at hx
        rcases hx with rfl | rfl | rfl | rfl | rfl | rfl
        · exact ⟨_, .str _ (by have := fw.len; omega) fw.ok⟩
        · exact ⟨_, .str _ (by have := fb.len; omega) fb.ok⟩
        · obtain ⟨n, h, _⟩ := gv7
          exact ⟨n, (h.same (same_new k1)).same (same_new k2)⟩
        · exact ⟨_, .int _⟩
        · exact ⟨_, .lst (xs := [V.str wd]) (by walk_at "hlook")⟩
        · exact ⟨_, .str _ (text_len zlog) (text_ok _)⟩
      generalize upd (upd H7 l1 (.lst [V.str wd])) l2 (.lst [V.str wd, V.str wb, v, V.int z, V.ref l1, V.str (toString z)]) = H8 at P15 e2 all ⊢
      refine g_atL (SqL.of e2) ?_
      generalize hL : [V.str wd, V.str wb, v, V.int z, V.ref l1, V.str (toString z)] = L at e2 all
      refine for_list (K := K) (a := l2) (xs := L) (fun j σ' H' => (∃ y6, σ' = [some (.ref a), some (.ref q), some (.int (0 + i)), some (.int z), some v, some (.str wd), y6, none]) ∧ Same H8 H') ⟨⟨y6, rfl⟩, Same.refl _⟩ (fun j σ' H' _ h => h.2.seq (SqL.of e2)) ?_ ?_
      · rintro j x σ' H9 hj ⟨⟨y6, rfl⟩, s9⟩
        obtain ⟨n, kd⟩ := all x (List.mem_of_getElem? hj)
        have kd := kd.same s9
        walk_at "hx"
        walk_at "hline"
        refine ⟨x, n, rfl, kd, ?_⟩
        intro Ha1 sa1
        have kd := kd.same sa1
        walk_at "hx"
        refine ⟨x, n, rfl, kd, ?_⟩
        intro Hb1 sb1
        have kd := kd.same sb1
        walk_at "hx"
        intro pa1 na1
        have kd := kd.same (same_new (o := .lst [V.bl (okV x), V.bl (okV x)]) na1)
        walk_at "hx"
        refine g_repr _ (dp2 upd_same) (show2 _) ?_
        walk_at "hx"
        refine ⟨x, n, rfl, kd, ?_⟩
        intro Hc1 sc1
        have kd := kd.same sc1
        walk_at "hx"
        intro pb1 nb1
        have kd := kd.same (same_new (o := .lst [V.bl (okV x)]) nb1)
        walk_at "hx"
        refine g_rep upd_same (by decide) (by decide) (by (show 1 * 2 ≤ sizeLine); decide) ?_
        intro pc1 nc1
        have kd := kd.same (same_new (o := .lst (List.replicate (Int.toNat 2) [V.bl (okV x)]).flatten) nc1)
        walk_at "hx"
        refine g_repr (.list [.bool (okV x), .bool (okV x)]) (dp2 upd_same) (show2 _) ?_
        walk_at "hx"
        refine g_false (by simp) ?_
        walk_at "hx"
        refine ⟨x, n, rfl, kd, ?_⟩
        intro Ha2 sa2
        have kd := kd.same sa2
        walk_at "hx"
        refine ⟨x, n, rfl, kd, ?_⟩
        intro Hb2 sb2
        have kd := kd.same sb2
        walk_at "hx"
        intro pa2 na2
        have kd := kd.same (same_new (o := .lst [V.bl (wholeV x), V.bl (wholeV x)]) na2)
        walk_at "hx"
        refine g_repr _ (dp2 upd_same) (show2 _) ?_
        walk_at "hx"
        refine ⟨x, n, rfl, kd, ?_⟩
        intro Hc2 sc2
        have kd := kd.same sc2
        walk_at "hx"
        intro pb2 nb2
        have kd := kd.same (same_new (o := .lst [V.bl (wholeV x)]) nb2)
        walk_at "hx"
        refine g_rep upd_same (by decide) (by decide) (by (show 1 * 2 ≤ sizeLine); decide) ?_
        intro pc2 nc2
        have kd := kd.same (same_new (o := .lst (List.replicate (Int.toNat 2) [V.bl (wholeV x)]).flatten) nc2)
        walk_at "hx"
        refine g_repr (.list [.bool (wholeV x), .bool (wholeV x)]) (dp2 upd_same) (show2 _) ?_
        walk_at "hx"
        refine g_false (by simp) ?_
        walk_at "hx"
        refine ⟨⟨some x, rfl⟩, ?_⟩
        exact (((((((((((s9.trans sa1).trans sb1).trans (same_new na1)).trans sc1).trans (same_new nb1)).trans (same_new nc1)).trans sa2).trans sb2).trans (same_new na2)).trans sc2).trans (same_new nb2)).trans (same_new nc2)
      · rintro σ' H9 ⟨⟨y6, rfl⟩, s9⟩
        walk_at "hx"
        exact ⟨⟨_, _, _, _, _, rfl⟩, (P15.same s9).more (by omega)⟩
    · rintro σ' H2 ⟨⟨y2, y3, y4, y5, y6, rfl⟩, P2⟩
      walk_at "hline"
      intro t nt
      refine g_atT (SqT.of upd_same) ?_
      intro D nD
      generalize hX : [V.str (Str.ofString "a"), V.str (Str.ofString "z"), V.str (Str.ofString "zzzzzzzz"), V.str (Str.ofString "aaaaaaaaa"), V.str (Str.ofString "self"), V.str (Str.ofString "None"), V.str (Str.ofString "none"), V.str (Str.ofString "mod")] = X at nD ⊢
      have fine : ∀ x ∈ X, ∃ z : Str, x = .str z ∧ z.length ≤ 10000 ∧ PyData.strOk z = true := by
        subst hX
        intro x hx
        simp only [List.mem_cons, List.not_mem_nil, or_false] at hx
        rcases hx with rfl | rfl | rfl | rfl | rfl | rfl | rfl | rfl
        all_goals exact ⟨_, rfl, by decide +kernel, by decide +kernel⟩
      have lX : X.length = 8 := by
        rw [← hX]
        rfl
      have hT : upd H2 t (.tup X) t = some (.tup X) := upd_same
      generalize upd H2 t (.tup X) = H3 at nD hT ⊢
      refine lc_tup (K := K) (a := t) (xs := X) (fun i H' => Same H3 H' ∧ H' D = some (.lst ((X.take i).map fun v => V.bl (okV v)))) ⟨same_new nD, upd_same⟩ (fun i H' _ h => ?_) ?_ ?_
      · exact .inl (.inl (h.1 _ _ hT))
      · rintro i x H4 hi ⟨s4, h4⟩
        walk_at "hx"
        refine ⟨rfl, ?_⟩
        walk_at "hx"
        obtain ⟨z, rfl, zl, zo⟩ := fine x (List.mem_of_getElem? hi)
        refine ⟨_, "str", rfl, .str z zl zo, ?_⟩
        intro H5 s5
        refine ⟨_, s5 _ _ h4, ?_, fun b o e => ?_, ?_⟩
        · rw [List.length_map, List.length_take]
          exact Nat.lt_of_lt_of_le (show min i X.length < 1000 by omega) (by decide)
        · rw [upd_ne (ne_of_none e nD)]
          exact s5 _ _ (s4 _ _ e)
        · rw [upd_same, List.take_add_one, hi, List.map_append]
          rfl
      · rintro H4 ⟨s4, h4⟩
        rw [List.take_length, ← hX] at h4
        walk_at "hx"
        intro u1 w1
        walk_at "hx"
        refine g_rep upd_same (by decide) (by decide) (by (show 1 * 3 ≤ sizeLine); decide) ?_
        intro u2 w2
        walk_at "hx"
        intro u3 w3
        walk_at "hx"
        refine g_cat (look_past (ne_of_none upd_same w3) upd_same) upd_same (by (show 3 + 5 ≤ sizeLine); decide) ?_
        intro u4 w4
        walk_at "hx"
        have hD := (((same_new (o := .lst [V.bl true]) w1).trans (same_new (o := .lst (List.replicate (Int.toNat 3) [V.bl true]).flatten) w2)).trans (same_new (o := .lst [V.bl false, V.bl false, V.bl false, V.bl true, V.bl true]) w3)).trans (same_new (o := .lst ((List.replicate (Int.toNat 3) [V.bl true]).flatten ++ [V.bl false, V.bl false, V.bl false, V.bl true, V.bl true])) w4) _ _ h4
        have hU : upd (upd (upd (upd H4 u1 (.lst [V.bl true])) u2 (.lst (List.replicate (Int.toNat 3) [V.bl true]).flatten)) u3 (.lst [V.bl false, V.bl false, V.bl false, V.bl true, V.bl true])) u4 (.lst ((List.replicate (Int.toNat 3) [V.bl true]).flatten ++ [V.bl false, V.bl false, V.bl false, V.bl true, V.bl true])) u4 = some (.lst [V.bl true, V.bl true, V.bl true, V.bl false, V.bl false, V.bl false, V.bl true, V.bl true]) := upd_same
        generalize upd (upd (upd (upd H4 u1 (.lst [V.bl true])) u2 (.lst (List.replicate (Int.toNat 3) [V.bl true]).flatten)) u3 (.lst [V.bl false, V.bl false, V.bl false, V.bl true, V.bl true])) u4 (.lst ((List.replicate (Int.toNat 3) [V.bl true]).flatten ++ [V.bl false, V.bl false, V.bl false, V.bl true, V.bl true])) = H5 at hD hU ⊢
        have vals : List.map (fun v => V.bl (okV v)) [V.str (Str.ofString "a"), V.str (Str.ofString "z"), V.str (Str.ofString "zzzzzzzz"), V.str (Str.ofString "aaaaaaaaa"), V.str (Str.ofString "self"), V.str (Str.ofString "None"), V.str (Str.ofString "none"), V.str (Str.ofString "mod")] = [V.bl true, V.bl true, V.bl true, V.bl false, V.bl false, V.bl false, V.bl true, V.bl true] := by decide +kernel
        rw [vals] at hD
        have dp : DpAll K H5 [V.bl true, V.bl true, V.bl true, V.bl false, V.bl false, V.bl false, V.bl true, V.bl true] [.bool true, .bool true, .bool true, .bool false, .bool false, .bool false, .bool true, .bool true] :=
          .cons (.bl _) (.cons (.bl _) (.cons (.bl _) (.cons (.bl _) (.cons (.bl _) (.cons (.bl _) (.cons (.bl _) (.cons (.bl _) .nil)))))))
        refine g_eqD (.lst (SqL.of hD) dp) (.lst (SqL.of hU) dp) (by decide +kernel) (by decide +kernel) ?_
        walk_at "hx"
        refine ⟨_, "int", rfl, .int 0, ?_⟩
        intro H6 s6
        walk_at "hx"
        refine ⟨.str (Str.ofString "0"), "str", rfl, .str _ (by decide +kernel) (by decide +kernel), ?_⟩
        intro H7 s7
        walk_at "hx"
        exact k H7
end

theorem all_mk {P : Program} {w : World} {K : PySem.W.Frag} {h : Heap} {mg : Str → Option Value} {fa f0 f1 f2 f3 f4 f5 f6 f7 f8 f9 f10 : Addr} (X : K.In h) (G : h.Ns mainGlobals mg) (hfa : mg "law" = some (.ref fa))
    {oc0 kV0 doc0 pm0 cd0 ct0 : Value} {od0 an0 : Option Addr} {sl0 : Array (Option Value)} {oc1 kV1 doc1 pm1 cd1 ct1 : Value} {od1 an1 : Option Addr} {sl1 : Array (Option Value)} {oc2 kV2 doc2 pm2 cd2 ct2 : Value} {od2 an2 : Option Addr} {sl2 : Array (Option Value)} {oc3 kV3 doc3 pm3 cd3 ct3 : Value} {od3 an3 : Option Addr} {sl3 : Array (Option Value)} {oc4 kV4 doc4 pm4 cd4 ct4 : Value} {od4 an4 : Option Addr} {sl4 : Array (Option Value)} {oc5 kV5 doc5 pm5 cd5 ct5 : Value} {od5 an5 : Option Addr} {sl5 : Array (Option Value)} {oc6 kV6 doc6 pm6 cd6 ct6 : Value} {od6 an6 : Option Addr} {sl6 : Array (Option Value)} {oc7 kV7 doc7 pm7 cd7 ct7 : Value} {od7 an7 : Option Addr} {sl7 : Array (Option Value)} {oc8 kV8 doc8 pm8 cd8 ct8 : Value} {od8 an8 : Option Addr} {sl8 : Array (Option Value)} {oc9 kV9 doc9 pm9 cd9 ct9 : Value} {od9 an9 : Option Addr} {sl9 : Array (Option Value)} {oc10 kV10 doc10 pm10 cd10 ct10 : Value} {od10 an10 : Option Addr} {sl10 : Array (Option Value)}
    (a0 : PySem.W.nsIn K mainGlobals "_law_pen" = some (some (.ref f0)))
    (l0 : K.lookup f0 = some ⟨oc0, od0, .func (PySem.W.fnOf "_law_pen" "_law_pen" (defArgs s_law_pen) (defBody s_law_pen) (defScope s_law_pen) .none kV0 doc0 pm0 an0 cd0 ct0), sl0⟩)
    (c0 : PySem.W.codeIn K cd0 "_law_pen" = true) (k0 : PySem.W.keepIn K (.ref f0) = true)
    (a1 : PySem.W.nsIn K mainGlobals "_law_draw" = some (some (.ref f1)))
    (l1 : K.lookup f1 = some ⟨oc1, od1, .func (PySem.W.fnOf "_law_draw" "_law_draw" (defArgs s_law_draw) (defBody s_law_draw) (defScope s_law_draw) .none kV1 doc1 pm1 an1 cd1 ct1), sl1⟩)
    (c1 : PySem.W.codeIn K cd1 "_law_draw" = true) (k1 : PySem.W.keepIn K (.ref f1) = true)
    (a2 : PySem.W.nsIn K mainGlobals "_law_pick" = some (some (.ref f2)))
    (l2 : K.lookup f2 = some ⟨oc2, od2, .func (PySem.W.fnOf "_law_pick" "_law_pick" (defArgs s_law_pick) (defBody s_law_pick) (defScope s_law_pick) .none kV2 doc2 pm2 an2 cd2 ct2), sl2⟩)
    (c2 : PySem.W.codeIn K cd2 "_law_pick" = true) (k2 : PySem.W.keepIn K (.ref f2) = true)
    (a3 : PySem.W.nsIn K mainGlobals "_law_word" = some (some (.ref f3)))
    (l3 : K.lookup f3 = some ⟨oc3, od3, .func (PySem.W.fnOf "_law_word" "_law_word" (defArgs s_law_word) (defBody s_law_word) (defScope s_law_word) .none kV3 doc3 pm3 an3 cd3 ct3), sl3⟩)
    (c3 : PySem.W.codeIn K cd3 "_law_word" = true) (k3 : PySem.W.keepIn K (.ref f3) = true)
    (a4 : PySem.W.nsIn K mainGlobals "_law_bent" = some (some (.ref f4)))
    (l4 : K.lookup f4 = some ⟨oc4, od4, .func (PySem.W.fnOf "_law_bent" "_law_bent" (defArgs s_law_bent) (defBody s_law_bent) (defScope s_law_bent) .none kV4 doc4 pm4 an4 cd4 ct4), sl4⟩)
    (c4 : PySem.W.codeIn K cd4 "_law_bent" = true) (k4 : PySem.W.keepIn K (.ref f4) = true)
    (a5 : PySem.W.nsIn K mainGlobals "_law_great" = some (some (.ref f5)))
    (l5 : K.lookup f5 = some ⟨oc5, od5, .func (PySem.W.fnOf "_law_great" "_law_great" (defArgs s_law_great) (defBody s_law_great) (defScope s_law_great) .none kV5 doc5 pm5 an5 cd5 ct5), sl5⟩)
    (c5 : PySem.W.codeIn K cd5 "_law_great" = true) (k5 : PySem.W.keepIn K (.ref f5) = true)
    (a6 : PySem.W.nsIn K mainGlobals "_law_is_word" = some (some (.ref f6)))
    (l6 : K.lookup f6 = some ⟨oc6, od6, .func (PySem.W.fnOf "_law_is_word" "_law_is_word" (defArgs s_law_is_word) (defBody s_law_is_word) (defScope s_law_is_word) .none kV6 doc6 pm6 an6 cd6 ct6), sl6⟩)
    (c6 : PySem.W.codeIn K cd6 "_law_is_word" = true) (k6 : PySem.W.keepIn K (.ref f6) = true)
    (a7 : PySem.W.nsIn K mainGlobals "_law_is_whole" = some (some (.ref f7)))
    (l7 : K.lookup f7 = some ⟨oc7, od7, .func (PySem.W.fnOf "_law_is_whole" "_law_is_whole" (defArgs s_law_is_whole) (defBody s_law_is_whole) (defScope s_law_is_whole) .none kV7 doc7 pm7 an7 cd7 ct7), sl7⟩)
    (c7 : PySem.W.codeIn K cd7 "_law_is_whole" = true) (k7 : PySem.W.keepIn K (.ref f7) = true)
    (a8 : PySem.W.nsIn K mainGlobals "is_name" = some (some (.ref f8)))
    (l8 : K.lookup f8 = some ⟨oc8, od8, .func (PySem.W.fnOf "is_name" "is_name" (defArgs s_is_name) (defBody s_is_name) (defScope s_is_name) .none kV8 doc8 pm8 an8 cd8 ct8), sl8⟩)
    (c8 : PySem.W.codeIn K cd8 "is_name" = true) (k8 : PySem.W.keepIn K (.ref f8) = true)
    (a9 : PySem.W.nsIn K mainGlobals "is_integer" = some (some (.ref f9)))
    (l9 : K.lookup f9 = some ⟨oc9, od9, .func (PySem.W.fnOf "is_integer" "is_integer" (defArgs s_is_integer) (defBody s_is_integer) (defScope s_is_integer) .none kV9 doc9 pm9 an9 cd9 ct9), sl9⟩)
    (c9 : PySem.W.codeIn K cd9 "is_integer" = true) (k9 : PySem.W.keepIn K (.ref f9) = true)
    (a10 : PySem.W.nsIn K mainGlobals "law" = some (some (.ref f10)))
    (l10 : K.lookup f10 = some ⟨oc10, od10, .func (PySem.W.fnOf "law" "law" (defArgs s_law) (defBody s_law) (defScope s_law) .none kV10 doc10 pm10 an10 cd10 ct10), sl10⟩)
    (c10 : PySem.W.codeIn K cd10 "law" = true) (k10 : PySem.W.keepIn K (.ref f10) = true)
    (z_int : PySem.W.nsIn K mainGlobals "int" = some none)
    (z_len : PySem.W.nsIn K mainGlobals "len" = some none)
    (z_abs : PySem.W.nsIn K mainGlobals "abs" = some none)
    (z_list : PySem.W.nsIn K mainGlobals "list" = some none)
    (z_range : PySem.W.nsIn K mainGlobals "range" = some none)
    (z_bool : PySem.W.nsIn K mainGlobals "bool" = some none)
    (z_str : PySem.W.nsIn K mainGlobals "str" = some none)
    (z_isinstance : PySem.W.nsIn K mainGlobals "isinstance" = some none)
    (z_repr : PySem.W.nsIn K mainGlobals "repr" = some none) :
    ∃ fd : FuncData, (∀ (s : Shared) (u : Value), BindsTo s fd ⟨[u], []⟩ [("_law_script", u)]) ∧ ∀ base : Heap, K.In base → base.Ns mainGlobals mg → FnG P w K mg base CX0 5 fa fd ["_law_script"] (spLaw K) := by
  have e := hfa.symm.trans (PySem.W.mg_of X G a10)
  cases e
  have F0 := fun_mk (st := s_law_pen) l0 c0 k0
  have b0 := F0.binds (ps := ["_law_script"]) fun _ _ _ _ _ _ us hl => match us, hl with | [_], _ => rfl
  have F1 := fun_mk (st := s_law_draw) l1 c1 k1
  have b1 := F1.binds (ps := ["_law_pen_here", "_law_many"]) fun _ _ _ _ _ _ us hl => match us, hl with | [_, _], _ => rfl
  have F2 := fun_mk (st := s_law_pick) l2 c2 k2
  have b2 := F2.binds (ps := ["_law_pen_here", "_law_some"]) fun _ _ _ _ _ _ us hl => match us, hl with | [_, _], _ => rfl
  have F3 := fun_mk (st := s_law_word) l3 c3 k3
  have b3 := F3.binds (ps := ["_law_pen_here"]) fun _ _ _ _ _ _ us hl => match us, hl with | [_], _ => rfl
  have F4 := fun_mk (st := s_law_bent) l4 c4 k4
  have b4 := F4.binds (ps := ["_law_pen_here", "_law_word_here"]) fun _ _ _ _ _ _ us hl => match us, hl with | [_, _], _ => rfl
  have F5 := fun_mk (st := s_law_great) l5 c5 k5
  have b5 := F5.binds (ps := ["_law_pen_here", "_law_most"]) fun _ _ _ _ _ _ us hl => match us, hl with | [_, _], _ => rfl
  have F6 := fun_mk (st := s_law_is_word) l6 c6 k6
  have b6 := F6.binds (ps := ["_law_thing"]) fun _ _ _ _ _ _ us hl => match us, hl with | [_], _ => rfl
  have F7 := fun_mk (st := s_law_is_whole) l7 c7 k7
  have b7 := F7.binds (ps := ["_law_thing"]) fun _ _ _ _ _ _ us hl => match us, hl with | [_], _ => rfl
  have F8 := fun_mk (st := s_is_name) l8 c8 k8
  have b8 := F8.binds (ps := ["value"]) fun _ _ _ _ _ _ us hl => match us, hl with | [_], _ => rfl
  have F9 := fun_mk (st := s_is_integer) l9 c9 k9
  have b9 := F9.binds (ps := ["value"]) fun _ _ _ _ _ _ us hl => match us, hl with | [_], _ => rfl
  have F10 := fun_mk (st := s_law) l10 c10 k10
  have zint := PySem.W.mg_none_of X G z_int
  have zlen := PySem.W.mg_none_of X G z_len
  have zabs := PySem.W.mg_none_of X G z_abs
  have zlist := PySem.W.mg_none_of X G z_list
  have zrange := PySem.W.mg_none_of X G z_range
  have zbool := PySem.W.mg_none_of X G z_bool
  have zstr := PySem.W.mg_none_of X G z_str
  have zisinstance := PySem.W.mg_none_of X G z_isinstance
  have zrepr := PySem.W.mg_none_of X G z_repr
  have g0 := PySem.W.mg_of X G a0
  have g1 := PySem.W.mg_of X G a1
  have g2 := PySem.W.mg_of X G a2
  have g3 := PySem.W.mg_of X G a3
  have g4 := PySem.W.mg_of X G a4
  have g5 := PySem.W.mg_of X G a5
  have g6 := PySem.W.mg_of X G a6
  have g7 := PySem.W.mg_of X G a7
  have g8 := PySem.W.mg_of X G a8
  have g9 := PySem.W.mg_of X G a9
  have kb8 : KBinds K _ ["value"] ["value"] (fun us ws => us ++ ws) (fun vs zs => vs ++ zs) := kb_one F8 (fun _ _ _ _ _ _ _ => rfl) (fun _ _ _ _ _ _ _ => rfl)
  have kb9 : KBinds K _ ["value"] ["value"] (fun us ws => us ++ ws) (fun vs zs => vs ++ zs) := kb_one F9 (fun _ _ _ _ _ _ _ => rfl) (fun _ _ _ _ _ _ _ => rfl)
  exact ⟨PySem.W.fnOf "law" "law" (defArgs s_law) (defBody s_law) (defScope s_law) .none kV10 doc10 pm10 an10 cd10 ct10, fun s v => .of_eq rfl, fun base _ _ =>
    ok_law F10 ⟨zint, zlen, zabs⟩ ⟨zlist, zlen, zrange⟩ ⟨zint, zbool, zstr, zlen, zisinstance⟩ ⟨zstr, zrepr, zrange⟩ F0 b0 g0 F1 b1 g1 F2 b2 g2 F3 b3 g3 F4 b4 g4 F5 b5 g5 F6 b6 g6 F7 b7 g7 F8 b8 kb8 g8 F9 b9 kb9 g9⟩

end K2
open PySem PySem.W PyProof.Rows
set_option maxRecDepth 100000 in
set_option maxHeartbeats 0 in
theorem PySem.Challenge.cw_evenends_k02_names_and_integers_known_holds : PySem.Challenge.rw_evenends_k02_names_and_integers_known.Holds := by
  w_on; o_law; k_head; (case hw => w_witness2)
  k_fill
  refine EvG.walkG (x := "_law_script") (k := 5) (n := 63) (sp := K2.spLaw) (l := PySem.Challenge.rw_evenends_k02_names_and_integers_known) rfl (by decide) rfl ⟨rfl, by decide, by decide⟩ (fun w h Y => PySem.W.kIn_of Y) ?F (fun K H a ns hl _ hS => ⟨a, ns, rfl, hS, hl, fun _ => rfl⟩)
  case F =>
    intro w mg fa h KX G hmg
    refine' K2.all_mk KX G hmg ?a0 ?l0 ?c0 ?k0 ?a1 ?l1 ?c1 ?k1 ?a2 ?l2 ?c2 ?k2 ?a3 ?l3 ?c3 ?k3 ?a4 ?l4 ?c4 ?k4 ?a5 ?l5 ?c5 ?k5 ?a6 ?l6 ?c6 ?k6 ?a7 ?l7 ?c7 ?k7 ?a8 ?l8 ?c8 ?k8 ?a9 ?l9 ?c9 ?k9 ?a10 ?l10 ?c10 ?k10 ?z_int ?z_len ?z_abs ?z_list ?z_range ?z_bool ?z_str ?z_isinstance ?z_repr
    (case a0 => k_is); (case l0 => k_is); (case c0 => k_is); (case k0 => k_is); (case a1 => k_is); (case l1 => k_is)
    (case c1 => k_is); (case k1 => k_is); (case a2 => k_is); (case l2 => k_is); (case c2 => k_is); (case k2 => k_is)
    (case a3 => k_is); (case l3 => k_is); (case c3 => k_is); (case k3 => k_is); (case a4 => k_is); (case l4 => k_is)
    (case c4 => k_is); (case k4 => k_is); (case a5 => k_is); (case l5 => k_is); (case c5 => k_is); (case k5 => k_is)
    (case a6 => k_is); (case l6 => k_is); (case c6 => k_is); (case k6 => k_is); (case a7 => k_is); (case l7 => k_is)
    (case c7 => k_is); (case k7 => k_is); (case a8 => k_is); (case l8 => k_is); (case c8 => k_is); (case k8 => k_is)
    (case a9 => k_is); (case l9 => k_is); (case c9 => k_is); (case k9 => k_is); (case a10 => k_is); (case l10 => k_is)
    (case c10 => k_is); (case k10 => k_is); (case z_int => k_is); (case z_len => k_is); (case z_abs => k_is); (case z_list => k_is)
    (case z_range => k_is); (case z_bool => k_is); (case z_str => k_is); (case z_isinstance => k_is); (case z_repr => k_is)
