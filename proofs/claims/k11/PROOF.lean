import PyProof.Rows.All
import Wide.All
import OpenK.AllK
import Wide.FinOn
import HandS.ForMost
import HandS.IsInst
import HandS.Wide
import HandS.Style
import HandS.TupLe
import HandS.TupAny
import HandS.Walk
import HandS.Evl
import HandS.Base
import HandS.Call
import HandS.List
import HandS.Ends
import HandS.Words
import HandS.More
import HandS.Zip
import PyProof.Rows.StrOr
import PyProof.ReprRoads
import KE.KIsAll
import KE.KCallOwn
import PyProof.InstEq
import HandS.OwnIter
import HandS.IterVal
import PyProof.WalksMore
import HandS.Deep
import HandS.Strs
import KE.KOpsOwn
import OpenK.KMeth
import OpenK.KOps
import OpenK.KCls
import PyProof.AttrMiss
import PyProof.Conv_bool
import PyProof.ListNew
import HandS.Exc
import HandS.ExcOwn
import HandS.ExcValue
import HandS.TryMany
import KE.KExcIs
import PyProof.ExcBaseAll.LookupError
import PyProof.ExcBaseAll.IndexError
import PyProof.ExcBaseAll.RuntimeError
import PyProof.ExcBaseAll.OverflowError
import PyProof.ExcBaseAll.ArithmeticError
import PyProof.ExcBaseAll.ZeroDivisionError
import HandS.ExcField
import HandS.HotCalls
import HandS.ExcIs
import HandS.Lambda
import HandS.EndTab
import PyProof.Rows.StrInSeq
import PyProof.EqKinds
import PyProof.NeKinds
import HandS.DictComp
import KE.KEqDict
import HandS.Set
import HandS.SetBool
import HandS.SetFor
import PyProof.Rows.SortStr
import HandS.Defaults
import HandS.Dict
import HandS.FStr
import HandS.Text
import HandS.StrMore
import KE.KRevSl
import HandS.RaiseMore
import HandS.ClsMeth
import PyProof.StrLawsChain
import HandS.Replace
import HandS.TupMul
import HandS.ListItems
import KE.KNestM
import PySem.Challenge.RW_grownlines_k11_errors_of_rules
set_option Elab.async false
set_option linter.all false
set_option maxRecDepth 100000
set_option exponentiation.threshold 7000
set_option maxHeartbeats 4000000
/-! Promises of defs that are called where nothing is being shown (repr asks it). -/
namespace GL
open PySem PySem.Spec PyProof.Rows L2

def Gd (A : Around) : Prop := A.guards = some []
structure FnG (P : Program) (w : World) (K : PySem.W.Frag) (mg : Str → Option Value) (base : Heap) (CX : CXT) (k : Nat) (f : Addr) (fd : FuncData) (ps : List Str) (sp : Sp) : Prop where
  len : ∀ vs H Q E, sp vs H Q E → vs.length = ps.length
  go : ∀ {A : Around} {outer : List Env} {s : Shared} {H : Hp} {args : Args} {us : List Value} {vs : List V} {Q : VK} {E : XK}, Gd A → Room k A → Env0 P w K mg base A outer s H →
    BindsTo s fd args (ps.zip us) → Vals vs us → sp vs H Q E → codeAny (model P w) A (.call (.ref f) args) (CR CX outer P w H s Q E) s
section
variable {P : Program} {w : World} {K : PySem.W.Frag} {mg : Str → Option Value} {base : Heap} {CX : CXT} {k : Nat} {f : Addr} {fd : FuncData} {ps N : List Str} {sp : Sp} {x qual : Str} {st : Stmt}
theorem FnG.of (F : FnOk P w K mg base CX k f fd ps sp) : FnG P w K mg base CX k f fd ps sp :=
  ⟨F.len, fun {A outer s H args us vs Q E} _ r e b v q => F.run A outer s H args us vs Q E r e b v q⟩
theorem FnG.up {j : Nat} (F : FnG P w K mg base CX j f fd ps sp) (h : j ≤ k) : FnG P w K mg base CX k f fd ps sp :=
  ⟨F.len, fun g r => F.go g (r.mono h)⟩
theorem fnG_mk (F : Fun K x qual st f fd) (S : FnScope N ps (defScope st)) (len : ∀ vs H Q E, sp vs H Q E → vs.length = ps.length)
    (body : ∀ (cdv : Value) (A : Around) (outer : List Env) (s : Shared) (H : Hp) (vs : List V) (Q : VK) (E : XK), Gd A → Room k (A.deeper (envOfC qual (defScope st) s.heap.objs.size f cdv)) → sp vs H Q E →
      ∃ t, PSs (cxOf CX P w K mg base N qual (defScope st) f cdv A outer s H E) (defBody st) t ∧ t { nx := fun _ H' => Q .non H', rt := Q } (start N vs) H) :
    FnG P w K mg base CX (k + 1) f fd ps sp := by
  obtain ⟨oc, od, kV, doc, pm, an, cdv, ct, osl, eF, at_, cR⟩ := F.ex
  subst eF
  constructor
  · exact len
  intro A outer s H args us vs Q E g room e0 bi vals asked
  have inK : K.In s.heap := e0.mod.kin.keeps (fun b o q => (e0.bs b o q).1)
  have line : s.heap.NoLimit := e0.mod.nolimit.keeps (fun b o q => (e0.bs b o q).1)
  have kinds : ∀ y ∈ ps.zip us, (defScope st).names.lookup y.1 = some .local ∨ ((defScope st).names.lookup y.1 = some .cell ∧ ((cellsFrom (s.heap.objs.size + 1) (defScope st).names []).lookup y.1).isSome = true) := by
    intro ⟨n, v⟩ hy
    cases S.par n (List.of_mem_zip hy).1 with
    | inl q => exact Or.inl q
    | inr q => exact Or.inr ⟨q, PySem.W.cellsFrom_some _ _ _ (Or.inl q)⟩
  apply codeAny_call_function room.depth (inK _ _ at_) rfl S.co S.gen rfl (PySem.W.codeRec_of inK cR)
  apply bi
  refine wpAny_newFunctionEnv_cells S.kind kinds (fun env eE s1 x1 => ?_)
  subst eE
  obtain ⟨t, rule, q⟩ := body cdv A outer s H vs Q E g (room.deeper _) asked
  have I0 := inv_start (CX := CX) (E := E) S room.hd e0 (len _ _ _ _ asked) vals x1
  refine ⟨line.keeps x1.toInCall.keep, codeAny_func (wpAny_mono (rule.run [] s1 _ H _ I0 q) (fun fl s' done => ?_) (fun _ _ z => z))⟩
  cases fl with
  | ret u => obtain ⟨v, _, H', J, rv, qv⟩ := done; exact ⟨v, H', J.os, J.bare, J.base, J.hok, rv, qv⟩
  | next => obtain ⟨_, H', J, qv⟩ := done; exact ⟨V.non, H', J.os, J.bare, J.base, J.hok, rfl, qv⟩
  | brk => obtain ⟨_, _, _, z⟩ := done; exact z.elim
  | cont => obtain ⟨_, _, _, z⟩ := done; exact z.elim
end

section
variable {X : Cx} {CX : CXT} {k : Nat} {f C : Addr} {fd : FuncData} {ps : List Str} {sp : Sp} {E : XK} {x m : Str} {p pos apos : Pos} {e o : Expr} {es : List Expr} {ta : TE} {t : TA}

theorem goes {pins : List (Addr × Obj)} {σ : L2.St} {H : Hp} {s : Shared} {Q : VK} {us : List Value} {vs : List V} (F : FnG X.prog X.w X.K X.mg X.base CX k f fd ps sp) (g : Gd X.A) (hr : Room k X.A) (hb : Binds X.K fd ps []) (hx : Passes CX X E)
    (I : Inv X pins σ H s) (r : Vals vs us) (h : sp vs H Q E) : wpAny (model X.prog X.w) X.A (call (.ref f) us) (EP X pins σ Q) X.xe s := by
  have n1 : (us ++ []).length = ps.length := by rw [List.append_nil, ← r.length]; exact F.len _ _ _ _ h
  have b1 := hb s us I.kIn n1
  rw [List.append_nil] at b1
  apply wpAny_call
  refine codeAny_mono (F.go g hr I.env0 b1 r h) (fun res s' z => ?_)
  match res, z with
  | .error _, z => exact hx pins σ H s _ s' I z
  | .ok (.ret _), z => exact I.after z
/-- what a name of a def is good for: the def at it keeps a promise -/
structure Has (P : Program) (w : World) (K : PySem.W.Frag) (mg : Str → Option Value) (base : Heap) (CX : CXT) (x : Str) (k : Nat) (ps : List Str) (sp : Sp) : Prop where
  ex : ∃ f fd, FnG P w K mg base CX k f fd ps sp ∧ mg x = some (.ref f) ∧ PySem.W.keepIn K (.ref f) = true ∧ Binds K fd ps []
theorem pe_callH (h : Has X.prog X.w X.K X.mg X.base CX x k ps sp) (g : Gd X.A) (hr : Room k X.A) (hx : Passes CX X E) (ha : PA X (e :: es) t) (hg : Gl X x := by exact rfl)
    (hdb : (x == ("__debug__" : Str)) = false := by decide) (he : starEach (e :: es) X.env = (false, eval e X.env) :: starEach es X.env := by rfl) (hpl : (backTo pos (starEach es X.env)).any (·.1) = false := by rfl) :
    PE X (.Call (.Name x p) (e :: es) [] pos) (tCall sp [] E t) := by
  obtain ⟨f, fd, F, m, kp, b⟩ := h.ex
  constructor
  intro pins s σ H Q I q
  apply wpAny_Call_Name_kw
  apply ld_glob I hg m _ hdb
  refine PySem.W.callWith_K (h₀ := X.base) I.ok.mod.kin kp (thn (ha.run pos pins s σ H _ I q) (fun us s1 z => ?_)) he hpl
  obtain ⟨vs, H1, I1, r, q1⟩ := z
  rw [List.append_nil] at q1
  exact ⟨I1.kIn, goes F g hr b hx I1 r q1⟩
theorem pe_call0H (h : Has X.prog X.w X.K X.mg X.base CX x k ps sp) (g : Gd X.A) (hr : Room k X.A) (hx : Passes CX X E) (hg : Gl X x := by exact rfl)
    (hdb : (x == ("__debug__" : Str)) = false := by decide) : PE X (.Call (.Name x p) [] [] pos) (tCall sp [] E tNil) := by
  obtain ⟨f, fd, F, m, kp, b⟩ := h.ex
  constructor
  intro pins s σ H Q I q
  apply wpAny_Call_Name_kw
  apply ld_glob I hg m _ hdb
  exact PySem.W.callWith_K0 I.kIn kp (goes (us := []) F g hr b hx I .nil q)
/-- a method of the instances of a class -/
structure HasM (P : Program) (w : World) (K : PySem.W.Frag) (mg : Str → Option Value) (base : Heap) (CX : CXT) (C : Addr) (m : Str) (k : Nat) (ps : List Str) (sp : Sp) : Prop where
  ex : ∃ f fd, FnG P w K mg base CX k f fd ps sp ∧ Meth K C m f ∧ Binds K fd ps []
theorem pe_methH {pl : Sem Bool} (he : PE X o ta) (c : Cls X.K C) (h : HasM X.prog X.w X.K X.mg X.base CX C m k ps sp) (g : Gd X.A) (hr : Room k X.A) (hx : Passes CX X E) (ha : PA X (e :: es) t)
    (hst : starEach (e :: es) X.env = (false, eval e X.env) :: starEach es X.env := by rfl) (hpl : (backTo pos (starEach es X.env)).any (·.1) = false := by rfl)
    (ht : eval (.Call (.Attribute o m apos) (e :: es) [] pos) X.env = ((eval o X.env).bind fun ov => (standAt apos.atName).bind fun _ => (holding [ov] (getMethod ov m pl)).bind fun fm =>
      callWith pos fm.1 fm.2 (backTo pos (starEach (e :: es) X.env)) (backToKw pos (keywordEach [] X.env))) := by rfl) :
    PE X (.Call (.Attribute o m apos) (e :: es) [] pos) (tMeth C m sp [] E ta t) := by
  obtain ⟨f, fd, F, M, b⟩ := h.ex
  constructor
  intro pins s σ H Q I q
  refine PySem.W.methodCall_KW (pl := pl) (thn (he.run pins s σ H _ I q) (fun u s1 z => ?_)) ht
  obtain ⟨x, H1, I1, rx, a, dx, fs, ex, ea, l, q1⟩ := z
  subst ex
  cases (show u = Value.ref a from rx)
  apply getmeth_ok I1 ea c M l
  refine PySem.W.callWith_K (first := [.ref a]) (h₀ := X.base) I.ok.mod.kin M.kp (thn (ha.run pos pins s1 σ H1 _ I1 q1) (fun us s2 z => ?_)) hst hpl
  obtain ⟨vs, H2, I2, r, q2⟩ := z
  rw [List.append_nil] at q2
  exact ⟨I2.kIn, goes (us := .ref a :: us) (vs := .ref a :: vs) F g hr b hx I2 (.cons rfl r) q2⟩
theorem pe_meth0H {pl : Sem Bool} (he : PE X o ta) (c : Cls X.K C) (h : HasM X.prog X.w X.K X.mg X.base CX C m k ps sp) (g : Gd X.A) (hr : Room k X.A) (hx : Passes CX X E)
    (ht : eval (.Call (.Attribute o m apos) [] [] pos) X.env = ((eval o X.env).bind fun ov => (standAt apos.atName).bind fun _ => (holding [ov] (getMethod ov m pl)).bind fun fm =>
      callWith pos fm.1 fm.2 (backTo pos (starEach [] X.env)) (backToKw pos (keywordEach [] X.env))) := by rfl) :
    PE X (.Call (.Attribute o m apos) [] [] pos) (tMeth C m sp [] E ta tNil) := by
  obtain ⟨f, fd, F, M, b⟩ := h.ex
  constructor
  intro pins s σ H Q I q
  refine PySem.W.methodCall_KW (pl := pl) (thn (he.run pins s σ H _ I q) (fun u s1 z => ?_)) ht
  obtain ⟨x, H1, I1, rx, a, dx, fs, ex, ea, l, q1⟩ := z
  subst ex
  cases (show u = Value.ref a from rx)
  apply getmeth_ok I1 ea c M l
  exact PySem.W.callWith_K0 (first := [.ref a]) I1.kIn M.kp (goes (us := [.ref a]) (vs := [.ref a]) F g hr b hx I1 (.cons rfl .nil) q1)
/-- len of an instance whose class has its own __len__ -/
theorem call_lenM (h : HasM X.prog X.w X.K X.mg X.base CX C "__len__" k ["self"] sp) (g : Gd X.A) (hr : Room (k + 1) X.A) (hx : Passes CX X E) :
    CallR X (.builtin "len") (fun xs H Q => ∃ a dx fs, xs = [.ref a] ∧ H a = some (.ins C dx fs) ∧ sp [.ref a] H (fun v H' => ∃ n : Int, v = .int n ∧ 0 ≤ n ∧ n < 2 ^ 63 ∧ Q (.int n) H') E) := by
  intro pins s σ H xs us Q I r q
  obtain ⟨a, dx, fs, rfl, ea, q1⟩ := q
  obtain ⟨f, fd, F, M, b⟩ := h.ex
  obtain ⟨u, rfl, ru⟩ := vals1 r
  cases (show u = Value.ref a from ru)
  obtain ⟨mA, O, _⟩ := ins_get I.hok ea
  obtain ⟨od, J, _⟩ := O.look
  have n1 : ([.ref a] : List Value).length = ["self"].length := rfl
  have b1 := b s [.ref a] I.kIn n1
  rw [List.append_nil] at b1
  obtain ⟨m', fr⟩ := I.fr
  refine PySem.W.len_K fr I.mod.kin J M.at_ M.fn ?_
  apply wpAny_call
  refine codeAny_mono (F.go (A := X.A.in1) g hr.in1 I.env0.in1 b1 (vs := [.ref a]) (.cons rfl .nil) q1) (fun res s' z => ?_)
  match res, z with
  | .error _, z => exact hx pins σ H s _ s' I z
  | .ok (.ret _), z =>
    obtain ⟨v, H', I', rv, n, rfl, n0, n1, q2⟩ := I.after z
    obtain ⟨t, rfl⟩ := rv
    exact ⟨⟨n0, n1⟩, .int n, H', I'.tok _, ⟨_, rfl⟩, q2⟩
/-- a class that is called: its __init__ keeps a promise -/
structure HasC (P : Program) (w : World) (K : PySem.W.Frag) (mg : Str → Option Value) (base : Heap) (x : Str) (C : Addr) (k : Nat) (ps : List Str) (sp : Sp) : Prop where
  ex : ∃ f fd, FnOk P w K mg base CX0 k f fd ps sp ∧ mg x = some (.ref C) ∧ Mk K C f ∧ Binds K fd ps []
theorem pe_makeH (h : HasC X.prog X.w X.K X.mg X.base x C k ps sp) (hr : Room (k + 1) X.A) (hx : Passes CX0 X E) (ha : PA X (e :: es) t) (hg : Gl X x := by exact rfl)
    (hdb : (x == ("__debug__" : Str)) = false := by decide) (he : starEach (e :: es) X.env = (false, eval e X.env) :: starEach es X.env := by rfl) (hpl : (backTo pos (starEach es X.env)).any (·.1) = false := by rfl) :
    PE X (.Call (.Name x p) (e :: es) [] pos) (tMake C sp [] E t) := by
  obtain ⟨f, fd, F, m, M, b⟩ := h.ex
  exact pe_make M F hr hg m b .nil hx ha hdb he hpl
end

/-! ### the script's end -/
section
variable {P : Program} {w : World} {K : PySem.W.Frag} {mg mb : Str → Option Value} {k : Nat} {fa a : Addr} {fd : FuncData} {x : Str} {sp : Sp} {s1 : Shared} {vs : List Value} {ns : List Int} {CX : CXT}
theorem core_end {H : Hp} (inK : K.In s1.heap) (hns : s1.heap.Ns mainGlobals mg) (hb : s1.heap.Ns builtinsNs mb) (hbb : ∀ x : Str, x ≠ "__name__" → mb x = bootBuiltins x) (lim : s1.heap.NoLimit) (hg : s1.gens = #[])
    (ha : s1.heap.get? a = some { cls := .type "list", data := .seq vs.toArray }) (hr : Room k callerA) (F : ∀ base : Heap, K.In base → base.Ns mainGlobals mg → FnG P w K mg base CX k fa fd [x] sp)
    (bi : ∀ (s : Shared) (u : Value), BindsTo s fd ⟨[u], []⟩ [(x, u)]) (asked : sp [.ref a] H (fun v _ => v = .bl true) (fun _ _ _ => False)) (none_ : ∀ e s', CX [] H s1 (fun _ _ _ => False) e s' → False)
    (hO : Only H) (ok : HOk P w H s1.heap) (hA : ∀ b, H b ≠ none → b = a) (hK : H a ≠ none → K.lookup a = none) :
    codeAny (model P w) callerA (.call (.ref fa) ⟨[.ref a], []⟩) (fun r s' => r = .ok (.ret (.bool true)) ∧ OldK s1.heap s'.heap ∧ s'.os = s1.os ∧ AllBare s'.gens) s1 := by
  have untracked : ∀ b o es ep, s1.heap.get? b = some o → o.data = .dict es ep → H b = none := by
    intro b o es ep e d
    rcases hq : H b with _ | u
    · rfl
    · have eb := hA b (by rw [hq]; exact nofun)
      rw [eb, ha] at e
      rw [← Option.some.inj e] at d
      exact absurd d (by exact nofun)
  have ns_ : ∀ b m, s1.heap.Ns b m → (hidT s1.heap H).Ns b m := by
    rintro b m ⟨o, es, ep, e, d, r⟩
    exact ⟨o, es, ep, hidT_get e (untracked b o es ep e d), d, r⟩
  have kin : K.In (hidT s1.heap H) := by
    intro b o e
    apply hidT_get (inK b o e)
    rcases hq : H b with _ | u
    · rfl
    · have eb := hA b (by rw [hq]; exact nofun)
      subst eb
      rw [hK (by rw [hq]; exact nofun)] at e
      exact absurd e nofun
  obtain ⟨mc, l1, l2⟩ := lim
  have e0 : Env0 P w K mg (hidT s1.heap H) callerA [] s1 H :=
    { frames := rfl, mod := ⟨kin, ns_ _ _ hns, ⟨mb, ns_ _ _ hb, hbb⟩, ⟨mc, ns_ _ _ l1, l2⟩⟩, bs := fun b o e => of_hidT e, bsz := Nat.le_of_eq (hidT_size _ _), funs := trivial,
      frf := fun b z => absurd (show b ∈ ([] : List Addr) from z) (List.not_mem_nil), hok := ok, bare := .of_eq hg }
  refine codeAny_mono ((F _ kin (ns_ _ _ hns)).go (args := ⟨[.ref a], []⟩) (us := [.ref a]) (vs := [.ref a]) rfl hr e0 (bi s1 (.ref a)) (.cons rfl .nil) asked) (fun r s' z => ?_)
  match r, z with
  | .error e, z => exact (none_ e s' z).elim
  | .ok (.ret u), z =>
    obtain ⟨v, H', os, bare, un, ok', rv, qv⟩ := z
    cases (show v = .bl true from qv)
    cases (show u = Value.bool true from rv)
    refine ⟨rfl, OldK.of_keep (fun b o e => ?_), os, bare⟩
    rcases hq : H b with _ | u
    · exact un.keep b o e hq (fun z => absurd (show b ∈ ([] : List Addr) from z) List.not_mem_nil) List.not_mem_nil
    · rcases hO b with z | ⟨ob, xs, z⟩
      · rw [z] at hq; cases hq
      · have g1 := (ok b _ z).1
        have g2 := (ok' b _ (un.frzs b ob _ z)).1
        rw [e] at g1
        rw [g2, ← g1]
theorem law_end (inK : K.In s1.heap) (hns : s1.heap.Ns mainGlobals mg) (hb : s1.heap.Ns builtinsNs mb) (hbb : ∀ x : Str, x ≠ "__name__" → mb x = bootBuiltins x) (lim : s1.heap.NoLimit) (hg : s1.gens = #[])
    (ha : s1.heap.get? a = some { cls := .type "list", data := .seq vs.toArray }) (hi : IntsAre vs ns) (hl : ns.length ≤ sizeLine) (hr : Room k callerA) (F : ∀ base : Heap, K.In base → base.Ns mainGlobals mg → FnG P w K mg base CX k fa fd [x] sp)
    (bi : ∀ (s : Shared) (u : Value), BindsTo s fd ⟨[u], []⟩ [(x, u)]) (asked : ∀ H : Hp, Only H → SqL K H a (ns.map V.int) → sp [.ref a] H (fun v _ => v = .bl true) (fun _ _ _ => False)) (none_ : ∀ H e s', CX [] H s1 (fun _ _ _ => False) e s' → False) :
    codeAny (model P w) callerA (.call (.ref fa) ⟨[.ref a], []⟩) (fun r s' => r = .ok (.ret (.bool true)) ∧ OldK s1.heap s'.heap ∧ s'.os = s1.os ∧ AllBare s'.gens) s1 := by
  have rv := vals_ints hi
  have lv : ns.length = vs.length := by have := rv.length; rwa [List.length_map] at this
  rcases hk : K.lookup a with _ | o
  · have own : ∀ b, (fun b => if b = a then some (HO.frz { cls := .type "list", data := .seq vs.toArray } (.lst (ns.map V.int))) else none : Hp) b ≠ none → b = a := by
      intro b z
      by_cases e : b = a
      · exact e
      · exact absurd (if_neg e) z
    have here : (fun b => if b = a then some (HO.frz { cls := .type "list", data := .seq vs.toArray } (.lst (ns.map V.int))) else none : Hp) a = some (HO.frz { cls := .type "list", data := .seq vs.toArray } (.lst (ns.map V.int))) := if_pos rfl
    have only : Only (fun b => if b = a then some (HO.frz { cls := .type "list", data := .seq vs.toArray } (.lst (ns.map V.int))) else none) := by
      intro b
      by_cases e : b = a
      · subst e; exact .inr ⟨_, _, here⟩
      · exact .inl (if_neg e)
    refine core_end inK hns hb hbb lim hg ha hr F bi (asked _ only (.inl (.inr ⟨_, here⟩))) (none_ _) only (fun b u z => ?_) own (fun _ => hk)
    have e := own b (fun h0 => by have z2 : some u = none := z.symm.trans h0; cases z2)
    subst e
    have z := here.symm.trans z
    cases z
    exact ⟨ha, by rw [List.length_map]; exact hl, vs, _, rv, ha⟩
  · have e := inK a o hk
    rw [ha] at e
    have e' := Option.some.inj e
    subst e'
    exact core_end (H := fun _ => none) inK hns hb hbb lim hg ha hr F bi (asked _ (fun _ => .inl rfl) (.inr ⟨_, vs.toArray, _, hk, rfl, rfl, rfl, by rw [List.size_toArray, ← lv]; exact hl, by simpa using rv⟩)) (none_ _) (fun _ => .inl rfl) (fun b u z => by cases z) (fun b z => absurd rfl z) (fun z => absurd rfl z)
theorem walk_to {l : PySem.W.OpenLaw} {n k : Nat} {q : Program} {loose : List Str} {XP : (Str → Option Value) → Heap → Prop} {YP : World → Heap → Prop} {d : DefRec} {Kf : Params → PySem.W.Frag} {sp : PySem.W.Frag → Sp} {x : Str}
    (hn : l.most = some n) (hn2 : n ≤ sizeLine) (hdf : d.params.defaults = []) (hr : Room k callerA) (hY : ∀ (w : World) (h : Heap), YP w h → (Kf w.params).In h)
    (F : ∀ (w : World) (mg : Str → Option Value) (fa : Addr) (h : Heap), (Kf w.params).In h → h.Ns mainGlobals mg → mg d.name = some (.ref fa) →
      ∃ fd : FuncData, (∀ (s : Shared) (u : Value), BindsTo s fd ⟨[u], []⟩ [(x, u)]) ∧ ∀ base : Heap, (Kf w.params).In base → base.Ns mainGlobals mg → FnG l.prog w (Kf w.params) mg base CX0 k fa fd [x] (sp (Kf w.params)))
    (hsp : ∀ (K : PySem.W.Frag) (H : Hp) (a : Addr) (ns : List Int), ns.length ≤ n → SqL K H a (ns.map V.int) → sp K [.ref a] H (fun v _ => v = .bl true) (fun _ _ _ => False)) :
    PySem.W.WalkO q loose XP YP l.row.toRowW d [] (fun f vs => PySem.call f vs) := by
  apply Att.attach_call hn hdf
  intro w s0 s1 mg mb fa o pm cd doc a vs ns G Y _ _ _ hmg obj hInts few gens
  obtain ⟨fd, bi, hF⟩ := F w mg fa _ (hY w _ Y) G.T.g hmg
  exact law_end (hY w _ Y) G.T.g G.T.b G.T.builtins G.T.nolimit gens obj hInts (Nat.le_trans few hn2) hr hF bi (fun H _ S => hsp _ H a ns few S) (fun _ _ _ z => z)
end
end GL
/-! Rules and promises that the proofs of this program share. -/
namespace GL
open PySem PySem.Spec PyProof.Rows L2

/-- a def as it stands behind the top -/
structure Df (K : PySem.W.Frag) (mg : Str → Option Value) (x : Str) (st : Stmt) : Prop where
  ex : ∃ f fd, Fun K x x st f fd ∧ mg x = some (.ref f)
theorem df_mk {K : PySem.W.Frag} {h : Heap} {mg : Str → Option Value} {x : Str} {st : Stmt} {f : Addr} {oc : Value} {od an : Option Addr} {osl : Array (Option Value)} {kV doc pm cdv ct : Value} (X : K.In h) (G : h.Ns mainGlobals mg)
    (a : PySem.W.nsIn K mainGlobals x = some (some (.ref f))) (l : K.lookup f = some ⟨oc, od, .func (PySem.W.fnOf x x (defArgs st) (defBody st) (defScope st) .none kV doc pm an cdv ct), osl⟩)
    (c : PySem.W.codeIn K cdv x = true) (k : PySem.W.keepIn K (.ref f) = true) : Df K mg x st := ⟨f, _, fun_mk l c k, PySem.W.mg_of X G a⟩
section
variable {P : Program} {w : World} {K : PySem.W.Frag} {mg : Str → Option Value} {base : Heap}
theorem _root_.L2.Fun.g {x qual : Str} {st : Stmt} {N ps : List Str} {k : Nat} {sp : Sp} {f : Addr} {fd : FuncData} (F : Fun K x qual st f fd) (S : FnScope N ps (defScope st)) (len : ∀ vs H Q E, sp vs H Q E → vs.length = ps.length)
    (body : ∀ (cdv : Value) (A : Around) (outer : List Env) (s : Shared) (H : Hp) (vs : List V) (Q : VK) (E : XK), Gd (A.deeper (envOfC qual (defScope st) s.heap.objs.size f cdv)) → Room k (A.deeper (envOfC qual (defScope st) s.heap.objs.size f cdv)) → sp vs H Q E →
      ∃ t, PSs (cxOf CX0 P w K mg base N qual (defScope st) f cdv A outer s H E).nox (defBody st) t ∧ t { nx := fun _ H' => Q .non H', rt := Q } (start N vs) H) : FnG P w K mg base CX0 (k + 1) f fd ps sp := by
  refine fnG_mk F S len (fun cdv A outer s H vs Q E g hr q => ?_)
  obtain ⟨t, ht, q⟩ := body cdv A outer s H vs Q E g hr q
  exact ⟨t, ht.nox, q⟩
/-- a method, and the __init__ of a class, as they stand behind the top -/
structure Dm (K : PySem.W.Frag) (C : Addr) (m qual : Str) (st : Stmt) : Prop where
  ex : ∃ f fd, Fun K m qual st f fd ∧ Meth K C m f
structure Dc (K : PySem.W.Frag) (C : Addr) (qual : Str) (st : Stmt) : Prop where
  ex : ∃ f fd, Fun K "__init__" qual st f fd ∧ Mk K C f
theorem dm_mk {C f : Addr} {m qual : Str} {st : Stmt} {oc : Value} {od an : Option Addr} {osl : Array (Option Value)} {kV doc pm cdv ct : Value} (a : PySem.W.findIn K (.ref C) m = some (some (.ref f))) (i : PySem.W.isFn K (.ref f) = true)
    (l : K.lookup f = some ⟨oc, od, .func (PySem.W.fnOf m qual (defArgs st) (defBody st) (defScope st) .none kV doc pm an cdv ct), osl⟩) (c : PySem.W.codeIn K cdv qual = true) (k : PySem.W.keepIn K (.ref f) = true) : Dm K C m qual st :=
  ⟨f, _, fun_mk l c k, ⟨a, i, k⟩⟩
theorem dc_mk {C f : Addr} {qual : Str} {st : Stmt} {oc : Value} {od an : Option Addr} {osl : Array (Option Value)} {kV doc pm cdv ct : Value} (a : PySem.W.findIn K (.ref C) "__init__" = some (some (.ref f))) (i : PySem.W.isFn K (.ref f) = true)
    (l : K.lookup f = some ⟨oc, od, .func (PySem.W.fnOf "__init__" qual (defArgs st) (defBody st) (defScope st) .none kV doc pm an cdv ct), osl⟩) (c : PySem.W.codeIn K cdv qual = true) (k : PySem.W.keepIn K (.ref f) = true)
    (mk : PySem.W.makesIn K C = true) (kc : PySem.W.keepIn K (.ref C) = true) : Dc K C qual st :=
  ⟨f, _, fun_mk l c k, ⟨mk, a, i, kc⟩⟩
theorem Dm.has {C : Addr} {m qual : Str} {st : Stmt} {N ps : List Str} {k : Nat} {sp : Sp} (D : Dm K C m qual st) (S : FnScope N ps (defScope st)) (len : ∀ vs H Q E, sp vs H Q E → vs.length = ps.length)
    (bi : ∀ (kV doc pm : Value) (an : Option Addr) (cdv ct : Value) (us : List Value), us.length = ps.length → bindArgs (PySem.W.fnOf m qual (defArgs st) (defBody st) (defScope st) .none kV doc pm an cdv ct) ⟨us, []⟩ = pure (ps.zip us))
    (body : ∀ (f : Addr) (cdv : Value) (A : Around) (outer : List Env) (s : Shared) (H : Hp) (vs : List V) (Q : VK) (E : XK), Gd (A.deeper (envOfC qual (defScope st) s.heap.objs.size f cdv)) → Room k (A.deeper (envOfC qual (defScope st) s.heap.objs.size f cdv)) → sp vs H Q E →
      ∃ t, PSs (cxOf CX0 P w K mg base N qual (defScope st) f cdv A outer s H E).nox (defBody st) t ∧ t { nx := fun _ H' => Q .non H', rt := Q } (start N vs) H) : HasM P w K mg base CX0 C m (k + 1) ps sp := by
  obtain ⟨f, fd, F, M⟩ := D.ex
  exact ⟨f, fd, F.g S len (body f), M, F.binds bi⟩
theorem Dc.has {C : Addr} {x qual : Str} {st : Stmt} {N ps : List Str} {k : Nat} {sp : Sp} (D : Dc K C qual st) (m : mg x = some (.ref C)) (S : FnScope N ps (defScope st)) (len : ∀ vs H Q E, sp vs H Q E → vs.length = ps.length)
    (bi : ∀ (kV doc pm : Value) (an : Option Addr) (cdv ct : Value) (us : List Value), us.length = ps.length → bindArgs (PySem.W.fnOf "__init__" qual (defArgs st) (defBody st) (defScope st) .none kV doc pm an cdv ct) ⟨us, []⟩ = pure (ps.zip us))
    (body : ∀ (f : Addr) (cdv : Value) (A : Around) (outer : List Env) (s : Shared) (H : Hp) (vs : List V) (Q : VK) (E : XK), Room k (A.deeper (envOfC qual (defScope st) s.heap.objs.size f cdv)) → sp vs H Q E →
      ∃ t, PSs (cxOf CX0 P w K mg base N qual (defScope st) f cdv A outer s H E).nox (defBody st) t ∧ t { nx := fun _ H' => Q .non H', rt := Q } (start N vs) H) : HasC P w K mg base x C (k + 1) ps sp := by
  obtain ⟨f, fd, F, M⟩ := D.ex
  exact ⟨f, fd, F.ok S len (body f), m, M, F.binds bi⟩
theorem Df.has {x : Str} {st : Stmt} {N ps : List Str} {k : Nat} {sp : Sp} (D : Df K mg x st) (S : FnScope N ps (defScope st)) (len : ∀ vs H Q E, sp vs H Q E → vs.length = ps.length)
    (bi : ∀ (kV doc pm : Value) (an : Option Addr) (cdv ct : Value) (us : List Value), us.length = ps.length → bindArgs (PySem.W.fnOf x x (defArgs st) (defBody st) (defScope st) .none kV doc pm an cdv ct) ⟨us, []⟩ = pure (ps.zip us))
    (body : ∀ (f : Addr) (cdv : Value) (A : Around) (outer : List Env) (s : Shared) (H : Hp) (vs : List V) (Q : VK) (E : XK), Gd (A.deeper (envOfC x (defScope st) s.heap.objs.size f cdv)) → Room k (A.deeper (envOfC x (defScope st) s.heap.objs.size f cdv)) → sp vs H Q E →
      ∃ t, PSs (cxOf CX0 P w K mg base N x (defScope st) f cdv A outer s H E).nox (defBody st) t ∧ t { nx := fun _ H' => Q .non H', rt := Q } (start N vs) H) : Has P w K mg base CX0 x (k + 1) ps sp := by
  obtain ⟨f, fd, F, m⟩ := D.ex
  exact ⟨f, fd, F.g S len (body f), m, F.kp, F.binds bi⟩
/-- the law's own def, for the end -/
theorem Df.law {x : Str} {st : Stmt} {p : Str} {k : Nat} {sp : Sp} {fa : Addr} (D : Df K mg x st) (m : mg x = some (.ref fa)) (S : ∀ base : Heap, K.In base → base.Ns mainGlobals mg → ∀ f fd, Fun K x x st f fd → FnG P w K mg base CX0 k f fd [p] sp)
    (bi : ∀ (kV doc pm : Value) (an : Option Addr) (cdv ct : Value) (u : Value), bindArgs (PySem.W.fnOf x x (defArgs st) (defBody st) (defScope st) .none kV doc pm an cdv ct) ⟨[u], []⟩ = pure [(p, u)]) :
    ∃ fd : FuncData, (∀ (s : Shared) (u : Value), BindsTo s fd ⟨[u], []⟩ [(p, u)]) ∧ ∀ base : Heap, K.In base → base.Ns mainGlobals mg → FnG P w K mg base CX0 k fa fd [p] sp := by
  obtain ⟨f, fd, F, m'⟩ := D.ex
  rw [m] at m'
  cases m'
  obtain ⟨oc, od, kV, doc, pm, an, cdv, ct, osl, eF, at_, cR⟩ := F.ex
  exact ⟨fd, fun s u => by subst eF; exact .of_eq (bi kV doc pm an cdv ct u), fun base kin hns => S base kin hns _ _ F⟩
end

/-- what a name of the module holds -/
def MgV (mg : Str → Option Value) (x : Str) (v : V) : Prop := ∃ u, mg x = some u ∧ RelV v u
theorem pe_globV {X : Cx} {x : Str} {v : V} {pos : Pos} (h : MgV X.mg x v) (hg : Gl X x := by exact rfl) (hd : (x == ("__debug__" : Str)) = false := by decide) : PE X (.Name x pos) (tC v) := by
  obtain ⟨u, m, r⟩ := h
  exact pe_glob hg m r hd

/-! ### repr of data -/
def rRepr (K : PySem.W.Frag) : List V → Hp → VK → Prop := fun xs H Q => ∃ x d, xs = [x] ∧ Dp K H x d ∧ d.showable = true ∧ d.hasDict = false ∧ d.depth ≤ 20 ∧ d.shown.length ≤ sizeLine ∧ Q (.str d.shown) H
theorem call_repr {X : Cx} (hg : Gd X.A) (hu : X.A.units + 64 < cLine) : CallR X (.builtin "repr") (rRepr X.K) := by
  intro pins s σ H xs us Q I r h
  obtain ⟨x, d, rfl, hd, hs, hn, hp, hz, q⟩ := h
  obtain ⟨u, rfl, r1⟩ := vals1 r
  have hh : ∀ v, RelV x v → ∃ as, Reads s.heap v d as := fun v rv => Dp.reads I d x v hd rv
  obtain ⟨as, hr⟩ := hh u r1
  cases d with
  | none => cases hr; exact PySem.P.repr_of_none ⟨.str _, H, I.tok _, ⟨_, rfl⟩, q⟩
  | bool b => cases hr; exact PySem.P.repr_of_bool ⟨.str _, H, I.tok _, ⟨_, rfl⟩, q⟩
  | int i => cases hr; exact PySem.P.repr_of_int (by simpa [PyData.showable] using hs) ⟨.str _, H, I.tok _, ⟨_, rfl⟩, q⟩
  | str y => cases hr; exact PySem.P.repr_of_str ⟨.str _, H, I.tok _, ⟨_, rfl⟩, q⟩ hz
  | list ds =>
    obtain ⟨a, rfl⟩ := isRef_of_reads hr rfl
    exact repr_of_reads' hr hs (PyData.noDict_hsm hn) hg (by omega) (fun _ _ e => e) (fun h' u tk hk => ⟨.str _, H, I.kept hk, ⟨_, rfl⟩, q⟩) hz
  | tuple ds =>
    obtain ⟨a, rfl⟩ := isRef_of_reads hr rfl
    exact repr_of_reads' hr hs (PyData.noDict_hsm hn) hg (by omega) (fun _ _ e => e) (fun h' u tk hk => ⟨.str _, H, I.kept hk, ⟨_, rfl⟩, q⟩) hz
  | dict kvs => cases hd

/-! ### values of expressions that change nothing -/
def Vl (te : TE) (σ : L2.St) (v : V) : Prop := ∀ (H : Hp) (Q : VK), Q v H → te σ H Q
theorem vl_and {ta tb : TE} {σ : L2.St} {a b : Bool} (ha : Vl ta σ (.bl a)) (hb : a = true → Vl tb σ (.bl b)) : Vl (tAndV ta tb) σ (.bl (a && b)) := by
  intro H Q q
  refine ha H _ ⟨a, rfl, ?_⟩
  cases a with
  | true => exact iteT (hb rfl H _ q)
  | false => exact iteF q
theorem vl_or {ta tb : TE} {σ : L2.St} {a b : Bool} (ha : Vl ta σ (.bl a)) (hb : a = false → Vl tb σ (.bl b)) : Vl (tOrV ta tb) σ (.bl (a || b)) := by
  intro H Q q
  refine ha H _ ⟨a, rfl, ?_⟩
  cases a with
  | true => exact iteT q
  | false => exact iteF (hb rfl H _ q)

/-! ### in a tuple of data, whatever the depth -/
def rInT (K : PySem.W.Frag) : R2 := fun x y H Q => ∃ d ds, Dp K H x d ∧ Dp K H y (.tuple ds) ∧ SeqAt.shaped d = true ∧ SeqAt.shaped (.tuple ds) = true ∧ Q (.bl (ds.any fun z => PyData.eqv z d)) H
theorem op_inT {X : Cx} (hu : X.A.units + 66 < cLine) : OpR X (compareOp .In) (rInT X.K) := by
  intro pins s σ H x y v u Q I rx ry asked
  obtain ⟨d, ds, hd, he, sd, se, q⟩ := asked
  obtain ⟨_, r1⟩ := Dp.reads I d x v hd rx
  obtain ⟨_, r2⟩ := Dp.reads I (.tuple ds) y u he ry
  have z := SeqAt.depth_of_shaped sd
  exact SeqAt.in_tuple_reads r2 r1 (SeqAt.canLay_of_shaped se) (SeqAt.canLay_of_shaped sd) (by have := Nat.min_le_right (PyData.depthAll ds) d.depth; omega) ⟨.bl _, H, I, rfl, q⟩

/-! ### how many different ints -/
def dist (ns : List Int) : Nat := (ns.foldl PyProof.Rows.step_dedup []).length
theorem range_getD (ns : List Int) : (List.range ns.length).map (fun i => ns.getD i 0) = ns := by
  apply List.ext_getElem
  · rw [List.length_map, List.length_range]
  · intro i h1 h2
    rw [List.getElem_map, List.getElem_range, List.getD_eq_getElem?_getD, List.getElem?_eq_getElem h2]
    rfl
def tLenSet (K : PySem.W.Frag) (ta : TE) : TE := fun σ H Q => ta σ H fun x H1 => ∃ (l : Addr) (ns : List Int), x = .ref l ∧ SqL K H1 l (ns.map V.int) ∧ ns.length < 64 ∧ Q (.int (dist ns : Nat)) H1
theorem pe_lenSet {X : Cx} {a : Expr} {ta : TE} {p p2 q pos : Pos} (hm : X.mg "len" = none) (hm2 : X.mg "set" = none) (ha : PE X a ta) (hg : Gl X "len" := by exact rfl) (hg2 : Gl X "set" := by exact rfl) (hc : X.calm = true := by rfl)
    (na : starEach [a] X.env = (false, eval a X.env) :: starEach [] X.env := by rfl) : PE X (.Call (.Name "len" p) [.Call (.Name "set" p2) [a] [] q] [] pos) (tLenSet X.K ta) := by
  constructor
  intro pins s σ H Q I asked
  refine Call_ ?_
  apply ld_blt I hg hm PySem.boot_len
  apply PyProof.Rows.callWith_builtin1 _ rfl rfl
  apply PyProof.Rows.args_cons _ rfl
  refine Call_ ?_
  apply ld_blt I hg2 hm2 PyProof.Rows.boot_set
  refine PyProof.Rows.callWith_type1 (PyProof.Rows.args_cons (thn (ha.run pins s σ H _ I asked) (fun v s1 z => PyProof.Rows.args_nil ?_)) na) na rfl
  obtain ⟨x, H1, I1, r1, l, ns, ex, hq, small, q1⟩ := z
  subst ex
  cases (show v = Value.ref l from r1)
  obtain ⟨its, r, pl, _⟩ := I1.list hq
  have size : its.toArray.size = ns.length := by have := r.length; rw [List.length_map] at this; rw [List.size_toArray, this]
  refine call_set_list (I1.ok.hd hc) pl.isList (ns := ns) (by simpa using r.ints) (by rw [size]; unfold scanBound; omega) (fun h' tk hS hk => ?_)
  apply PyProof.Rows.args_nil
  have e : (PyProof.Rows.firstMet (fun i => ns.getD i 0) its.toArray.size).length = dist ns := by
    rw [size]
    unfold PyProof.Rows.firstMet dist
    rw [range_getD]
  have few : dist ns ≤ ns.length := by rw [← e, size]; exact PyProof.Rows.firstMet_length_le _ _
  obtain ⟨o, es, ep, t, ho, hex, hd, _, _, _, hf, hn⟩ := hS
  rw [e] at hn
  have I2 : Inv X pins σ H1 { s1 with heap := h', toks := tk } := I1.kept (fun b o e => hk b o (Heap.lt_size e) e)
  exact call_len_set ho hex hd hf (by rw [hn]; omega) ⟨.int (dist ns : Nat), H1, I2.tok _, ⟨_, by rw [hn]⟩, q1⟩

/-! ### great powers -/
def CPowW (i j : Int) : Prop := 0 ≤ j ∧ (Builtin.Int.intBits i : Int) * j ≤ 2 ^ 27
theorem op_powW {X : Cx} : OpR X (binaryOp .Pow) (rI CPowW fun i j => .int (i ^ j.toNat)) := opI fun _ _ _ _ _ _ _ hc q => pow_int hc.1 hc.2 q

/-! ### kinds of values -/
inductive Kd where | non | bl | int | str | lst | tup | dct
def Kd.nm : Kd → String
  | .non => "NoneType" | .bl => "bool" | .int => "int" | .str => "str" | .lst => "list" | .tup => "tuple" | .dct => "dict"
def Kd.isB : Kd → Bool | .bl => true | _ => false
def Kd.isI : Kd → Bool | .bl => true | .int => true | _ => false
def Kd.isS : Kd → Bool | .str => true | _ => false
def Kd.isT : Kd → Bool | .tup => true | _ => false
theorem kit_bool {K : PySem.W.Frag} (k : Kd) : PySem.W.kitOne K (.type k.nm) (.type "bool") = some k.isB := by cases k <;> exact kit_ty (by decide +kernel)
theorem kit_int {K : PySem.W.Frag} (k : Kd) : PySem.W.kitOne K (.type k.nm) (.type "int") = some k.isI := by cases k <;> exact kit_ty (by decide +kernel)
theorem kit_str {K : PySem.W.Frag} (k : Kd) : PySem.W.kitOne K (.type k.nm) (.type "str") = some k.isS := by cases k <;> exact kit_ty (by decide +kernel)
theorem kit_tup {K : PySem.W.Frag} (k : Kd) : PySem.W.kitOne K (.type k.nm) (.type "tuple") = some k.isT := by cases k <;> exact kit_ty (by decide +kernel)
/-- a value of a kind -/
def Of (K : PySem.W.Frag) (H : Hp) (x : V) (k : Kd) : Prop := TyX K H x (.type k.nm)
theorem Of.bl {K : PySem.W.Frag} {H : Hp} {b : Bool} : Of K H (.bl b) .bl := .base (.bl b)
theorem Of.int {K : PySem.W.Frag} {H : Hp} {i : Int} : Of K H (.int i) .int := .base (.int i)
theorem Of.str {K : PySem.W.Frag} {H : Hp} {y : Str} : Of K H (.str y) .str := .base (.str y)
theorem Of.non {K : PySem.W.Frag} {H : Hp} : Of K H .non .non := .base .non
theorem Of.lst {K : PySem.W.Frag} {H : Hp} {a : Addr} {xs : List V} (h : H a = some (.lst xs)) : Of K H (.ref a) .lst := .base (.lst h)
theorem Of.tup {K : PySem.W.Frag} {H : Hp} {a : Addr} {xs : List V} (h : H a = some (.tup xs)) : Of K H (.ref a) .tup := .base (.tup h)
theorem Of.dct {K : PySem.W.Frag} {H : Hp} {a : Addr} {xs : List (Key × V)} (h : H a = some (.dK xs)) : Of K H (.ref a) .dct := .base (.dK h)
theorem Of.blI {K : PySem.W.Frag} {H : Hp} {x : V} (h : Of K H x .bl) : ∃ i, x = .bl i := by
  have e : Value.type (Kd.nm .bl) = .type "bool" := rfl
  unfold Of at h
  rw [e] at h
  generalize ht : Value.type "bool" = t at h
  cases h with
  | base b => cases b <;> first | exact ⟨_, rfl⟩ | exact absurd ht (by decide +kernel) | (exact absurd ht (by intro z; cases z))
  | byt b => exact absurd ht (by decide +kernel)
  | set _ => exact absurd ht (by decide +kernel)
  | kList _ _ => exact absurd ht (by decide +kernel)
  | kTuple _ _ => exact absurd ht (by decide +kernel)
  | kDict _ _ => exact absurd ht (by decide +kernel)
  | fTuple _ => exact absurd ht (by decide +kernel)
  | fDict _ => exact absurd ht (by decide +kernel)
theorem Of.intI {K : PySem.W.Frag} {H : Hp} {x : V} (h : Of K H x .int) : ∃ i, x = .int i := by
  have e : Value.type (Kd.nm .int) = .type "int" := rfl
  unfold Of at h
  rw [e] at h
  generalize ht : Value.type "int" = t at h
  cases h with
  | base b => cases b <;> first | exact ⟨_, rfl⟩ | exact absurd ht (by decide +kernel) | (exact absurd ht (by intro z; cases z))
  | byt b => exact absurd ht (by decide +kernel)
  | set _ => exact absurd ht (by decide +kernel)
  | kList _ _ => exact absurd ht (by decide +kernel)
  | kTuple _ _ => exact absurd ht (by decide +kernel)
  | kDict _ _ => exact absurd ht (by decide +kernel)
  | fTuple _ => exact absurd ht (by decide +kernel)
  | fDict _ => exact absurd ht (by decide +kernel)
theorem Of.strI {K : PySem.W.Frag} {H : Hp} {x : V} (h : Of K H x .str) : ∃ i, x = .str i := by
  have e : Value.type (Kd.nm .str) = .type "str" := rfl
  unfold Of at h
  rw [e] at h
  generalize ht : Value.type "str" = t at h
  cases h with
  | base b => cases b <;> first | exact ⟨_, rfl⟩ | exact absurd ht (by decide +kernel) | (exact absurd ht (by intro z; cases z))
  | byt b => exact absurd ht (by decide +kernel)
  | set _ => exact absurd ht (by decide +kernel)
  | kList _ _ => exact absurd ht (by decide +kernel)
  | kTuple _ _ => exact absurd ht (by decide +kernel)
  | kDict _ _ => exact absurd ht (by decide +kernel)
  | fTuple _ => exact absurd ht (by decide +kernel)
  | fDict _ => exact absurd ht (by decide +kernel)
/-- a value that is no int -/
theorem Of.notInt {K : PySem.W.Frag} {H : Hp} {i : Int} {k : Kd} (h : Of K H (.int i) k) : k = .int := by
  unfold Of at h
  generalize ht : Value.type k.nm = t at h
  cases h with
  | base b =>
    cases b
    cases k <;> first | rfl | exact absurd ht (by decide +kernel)
theorem Of.notStr {K : PySem.W.Frag} {H : Hp} {i : Str} {k : Kd} (h : Of K H (.str i) k) : k = .str := by
  unfold Of at h
  generalize ht : Value.type k.nm = t at h
  cases h with
  | base b =>
    cases b
    cases k <;> first | rfl | exact absurd ht (by decide +kernel)

/-! ### the dice: a list of three ints, the first of them not below nought -/
def Die (H : Hp) (p : Addr) : Prop := ∃ l b c : Int, 0 ≤ l ∧ H p = some (.lst [.int l, .int b, .int c])
/-- all but the dice at p is as it was -/
structure Got (p : Addr) (H H' : Hp) : Prop where
  keep : ∀ b o, H b = some o → b ≠ p → H' b = some o
  die : Die H' p
theorem Got.same {p : Addr} {H : Hp} (d : Die H p) : Got p H H := ⟨fun _ _ e _ => e, d⟩
theorem Got.trans {p : Addr} {H H1 H2 : Hp} (a : Got p H H1) (b : Got p H1 H2) : Got p H H2 := ⟨fun c o e n => b.keep c o (a.keep c o e n) n, b.die⟩
theorem Got.roll {p : Addr} {H : Hp} {l b c : Int} (h : 0 ≤ l) : Got p H (upd H p (.lst [.int l, .int b, .int c])) := ⟨fun d o e n => by rw [upd_ne n]; exact e, l, b, c, h, upd_same⟩
theorem Got.new {p q : Addr} {H : Hp} {o : HO} (d : Die H p) (n : H q = none) : Got p H (upd H q o) := by
  obtain ⟨l, b, c, l0, e⟩ := d
  exact ⟨fun x u z _ => by rw [upd_ne (ne_of_none z n)]; exact z, l, b, c, l0, by rw [upd_ne (ne_of_none e n)]; exact e⟩
theorem Got.free {p q : Addr} {H H' : Hp} (g : Got p H H') (d : Die H p) (n : H' q = none) : H q = none := by
  cases e : H q with
  | none => rfl
  | some o =>
    obtain ⟨l, b, c, _, ep⟩ := g.die
    by_cases z : q = p
    · rw [z, ep] at n; cases n
    · rw [g.keep q o e z] at n; cases n
theorem Got.over {p t : Addr} {H H' : Hp} (g : Got p H H') (d : Die H p) (n : H t = none) (u : HO) : Got p H (upd H' t u) := by
  refine ⟨fun b o e z => by rw [upd_ne (ne_of_none e n)]; exact g.keep b o e z, ?_⟩
  obtain ⟨l, b, c, l0, e⟩ := g.die
  obtain ⟨_, _, _, _, e0⟩ := d
  exact ⟨l, b, c, l0, by rw [upd_ne (ne_of_none e0 n)]; exact e⟩
theorem new_keep {H : Hp} {a p : Addr} {o u : HO} (h : H a = some o) (n : H p = none) : upd H p u a = some o := by rw [upd_ne (ne_of_none h n)]; exact h
theorem new_keep2 {H : Hp} {a p : Addr} {o u u' : HO} (h : H a = some o) (n : H p = none) : upd (upd H p u) p u' a = some o := by rw [upd_ne (ne_of_none h n), upd_ne (ne_of_none h n)]; exact h
theorem Die.ne {p q : Addr} {H : Hp} (d : Die H p) (n : H q = none) : p ≠ q := by
  obtain ⟨l, b, c, _, e⟩ := d
  exact ne_of_none e n
end GL
namespace GL
open PySem PySem.Spec PyProof.Rows L2
variable {K : PySem.W.Frag}
@[irreducible] def B : Int := 10 ^ 400
theorem B_eq : (B : Int) = 10 ^ 400 := by unfold B; rfl
def isIntV : V → Bool
  | .int i => decide (-B < i) && decide (i < B)
  | _ => false
def spIsInt (K : PySem.W.Frag) : Sp := fun vs H Q _ => ∃ x k, vs = [x] ∧ Of K H x k ∧ Q (.bl (isIntV x)) H
def isCountV : V → Bool
  | .int i => isIntV (.int i) && decide (0 ≤ i)
  | _ => false
def spIsCount (K : PySem.W.Frag) : Sp := fun vs H Q _ => ∃ x k, vs = [x] ∧ Of K H x k ∧ Q (.bl (isCountV x)) H
theorem one_sign {y : Str} (h : y.length = 1) : ∃ c, y = ⟨#[c]⟩ := by
  obtain ⟨⟨l⟩⟩ := y
  match l, h with
  | [c], _ => exact ⟨c, rfl⟩
def spRoll : Sp := fun vs H Q _ => ∃ p t, vs = [.ref p, .int t] ∧ Die H p ∧ 0 < t ∧ t.natAbs < 2 ^ 2000 ∧ ∀ r H', 0 ≤ r → r < t → Got p H H' → Q (.int r) H'
theorem at_ints {ns : List Int} {i : Int} (h0 : 0 ≤ i) (h1 : i < ns.length) : ∃ n, atI (ns.map V.int) i = some (.int n) := by
  obtain ⟨j, rfl⟩ : ∃ j : Nat, i = (j : Int) := ⟨i.toNat, by omega⟩
  have hj : j < ns.length := by omega
  exact ⟨ns[j], atI_nat (by rw [List.getElem?_map, List.getElem?_eq_getElem hj]; rfl)⟩
def spDice (K : PySem.W.Frag) : Sp := fun vs H Q _ => ∃ (a : Addr) (ns : List Int) (spot : Int), vs = [.ref a, .int spot] ∧ SqL K H a (ns.map V.int) ∧ 0 ≤ spot ∧ ∀ p H', H p = none → Same H H' → Die H' p → Q (.ref p) H'
def spPick : Sp := fun vs H Q _ => ∃ (p q : Addr) (xs : List V), vs = [.ref p, .ref q] ∧ Die H p ∧ (H q = some (.lst xs) ∨ H q = some (.tup xs)) ∧ q ≠ p ∧ 0 < xs.length ∧ xs.length ≤ 1000 ∧ ∀ v H', v ∈ xs → Got p H H' → Q v H'
def spLimit : Sp := fun vs H Q _ => vs = [] ∧ Q (.int B) H
theorem int_short {n : Int} : isIntV (.int n) = decide (n.natAbs < 10 ^ 400) := by
  have e : (10 : Int) ^ 400 = ((10 ^ 400 : Nat) : Int) := by rw [Int.natCast_pow]; rfl
  show (decide (-B < n) && decide (n < B)) = _
  rw [B_eq, e]
  generalize (10 ^ 400 : Nat) = N
  rw [Bool.eq_iff_iff]
  simp only [Bool.and_eq_true, decide_eq_true_eq]
  omega

theorem _root_.GL.Of.same {H H' : Hp} {x : V} {k : Kd} (h : Of K H x k) (s : Same H H') : Of K H' x k := by
  unfold Of at h ⊢
  generalize Value.type k.nm = t at h ⊢
  cases h with
  | base b =>
    cases b with
    | non => exact .base .non
    | bl x => exact .base (.bl x)
    | int i => exact .base (.int i)
    | str y => exact .base (.str y)
    | flt y => exact .base (.flt y)
    | lst e => exact .base (.lst (s _ _ e))
    | frz e => exact .base (.frz (s _ _ e))
    | tup e => exact .base (.tup (s _ _ e))
    | dK e => exact .base (.dK (s _ _ e))
    | dT e => exact .base (.dT (s _ _ e))
    | ins e a b c d e2 => exact .base (.ins (s _ _ e) a b c d e2)
  | byt b => exact .byt b
  | set e => exact .set (s _ _ e)
  | kList e c => exact .kList e c
  | kTuple e c => exact .kTuple e c
  | kDict e c => exact .kDict e c
  | fTuple e => exact .fTuple (s _ _ e)
  | fDict e => exact .fDict (s _ _ e)
/-- what is told of a value as a point -/
def PtV (K : PySem.W.Frag) (H : Hp) (x : V) (r : Bool) : Prop := ∃ k, Of K H x k ∧ (k.isT = false → r = false) ∧
  (k.isT = true → ∃ a xs, x = .ref a ∧ SqT K H a xs ∧ xs.length ≤ 1000 ∧ (xs.length ≠ 2 → r = false) ∧ (xs.length = 2 → ∃ u v ku kv, xs = [u, v] ∧ Of K H u ku ∧ Of K H v kv ∧ r = (isIntV u && isIntV v)))
def spIsPoint (K : PySem.W.Frag) : Sp := fun vs H Q _ => ∃ x r, vs = [x] ∧ PtV K H x r ∧ Q (.bl r) H
theorem ptTup2 {H : Hp} {a : Addr} {u v : V} {ku kv : Kd} (h : H a = some (.tup [u, v])) (hu : Of K H u ku) (hv : Of K H v kv) : PtV K H (.ref a) (isIntV u && isIntV v) :=
  ⟨.tup, .tup h, (fun z => nomatch z), fun _ => ⟨a, _, rfl, SqT.of h, (by show 2 ≤ 1000; decide), fun z => absurd rfl z, fun _ => ⟨u, v, ku, kv, rfl, hu, hv, rfl⟩⟩⟩
theorem ptTupN {H : Hp} {a : Addr} {xs : List V} (h : H a = some (.tup xs)) (l : xs.length ≤ 1000) (n : xs.length ≠ 2) : PtV K H (.ref a) false :=
  ⟨.tup, .tup h, (fun z => nomatch z), fun _ => ⟨a, _, rfl, SqT.of h, l, fun _ => rfl, fun z => absurd z n⟩⟩
theorem ptNo {H : Hp} {x : V} {k : Kd} (h : Of K H x k) (e : k.isT = false) : PtV K H x false := ⟨k, h, fun _ => rfl, fun z => by rw [e] at z; cases z⟩
def spPart : Sp := fun vs H Q _ => ∃ p, vs = [.ref p] ∧ Die H p ∧ ∀ n H', isIntV (.int n) = true → Got p H H' → Q (.int n) H'
def spMixed : Sp := fun vs H Q _ => ∃ (p q : Addr) (xs : List V), vs = [.ref p, .ref q] ∧ Die H p ∧ H q = some (.lst xs) ∧ q ≠ p ∧ xs.length ≤ 1000 ∧ ∀ l ys H', H l = none → l ≠ p → ys.length = xs.length → (∀ v ∈ ys, v ∈ xs) → H' l = some (.lst ys) → Got p H H' → Q (.ref l) H'

theorem Same.new {H : Hp} {p : Addr} {o : HO} (n : H p = none) : Same H (upd H p o) := fun b u e => by rw [upd_ne (ne_of_none e n)]; exact e
theorem Same.over {H H' : Hp} {p : Addr} (s : Same H H') (n : H p = none) (o : HO) : Same H (upd H' p o) := fun b u e => by rw [upd_ne (ne_of_none e n)]; exact s b u e
/-! ### lists of truth values -/
def bls (bs : List Bool) : PyData := .list (bs.map .bool)
theorem bls_dp {K : PySem.W.Frag} {H : Hp} : ∀ {bs : List Bool}, DpAll K H (bs.map V.bl) (bs.map .bool)
  | [] => .nil
  | b :: _ => .cons (.bl b) bls_dp
theorem bls_at {K : PySem.W.Frag} {H : Hp} {l : Addr} {bs : List Bool} (h : H l = some (.lst (bs.map V.bl))) : Dp K H (.ref l) (bls bs) := .lst (SqL.of h) bls_dp
theorem bls_eqv (bs : List Bool) : PyData.eqv (bls bs) (bls bs) = true := by
  show PyData.eqvAll (bs.map .bool) (bs.map .bool) = true
  induction bs with
  | nil => rfl
  | cons b r ih => rw [List.map_cons, PyData.eqvAll, ih]; cases b <;> rfl
theorem b4_ok (x y z u : Bool) : (bls [x, y, z, u]).showable = true ∧ (bls [x, y, z, u]).hasDict = false ∧ (bls [x, y, z, u]).depth ≤ 20 ∧ (bls [x, y, z, u]).shown.length ≤ sizeLine := by
  cases x <;> cases y <;> cases z <;> cases u <;> exact ⟨by decide +kernel, by decide +kernel, by decide +kernel, by decide +kernel⟩
theorem b4_shaped (x y z u : Bool) : SeqAt.shaped (bls [x, y, z, u]) = true := by cases x <;> cases y <;> cases z <;> cases u <;> decide +kernel
theorem few_of {n k : Nat} (hk : 1 ≤ k) (z : Int) (hz : (if (if (n : Int) < k then (n : Int) else k) > 1 then (if (n : Int) < k then (n : Int) else k) else 1) = z) : 0 ≤ z ∧ z ≤ k := by
  subst hz
  constructor <;> (split <;> (try split) <;> omega)
theorem seq_got {K : PySem.W.Frag} {a p : Addr} {xs : List V} {H0 H1 H' : Hp} (h : SqL K H0 a xs) (np : H0 p = none) (same : Same H0 H1) (g : Got p H1 H') : SqL K H' a xs := by
  have kp : ∀ o, H0 a = some o → H' a = some o := fun o e => g.keep a o (same a o e) (ne_of_none e np)
  rcases h with (z | ⟨o, z⟩) | z
  · exact .inl (.inl (kp _ z))
  · exact .inl (.inr ⟨o, kp _ z⟩)
  · exact .inr z
theorem take_map {α β : Type} {f : α → β} {l : List α} {i : Nat} {x : α} (h : l[i]? = some x) : (l.take i).map f ++ [f x] = (l.take (i + 1)).map f := by
  rw [List.take_add_one, h, List.map_append]
  rfl
theorem four {l : List V} (h : l.length = 4) : ∃ a b c d, l = [a, b, c, d] := by
  match l, h with
  | [a, b, c, d], _ => exact ⟨a, b, c, d, rfl⟩
end GL
namespace GL
open PySem PySem.Spec PyProof.Rows L2
/-! ### the two grids: false is the square one, true the other -/
def nm : Bool → Str | false => "square" | true => "triangle"
def num : Bool → Nat | false => 4 | true => 6
def sl : Bool → Int | false => 0 | true => 1
def ux : Bool → List (Int × Int)
  | false => [(1, 0), (0, 1), (-1, 0), (0, -1)]
  | true => [(1, 0), (0, 1), (-1, 1), (-1, 0), (0, -1), (1, -1)]
def mul (t : Bool) (u v : Int × Int) : Int × Int := (u.1 * v.1 - u.2 * v.2, u.1 * v.2 + u.2 * v.1 + sl t * (u.2 * v.2))
def nrm (t : Bool) (u : Int × Int) : Int := u.1 * u.1 + sl t * u.1 * u.2 + u.2 * u.2
def flip (t : Bool) (u : Int × Int) : Int × Int := (u.1 + sl t * u.2, -u.2)
def uni (t : Bool) (k : Int) : Int × Int := (ux t).getD (k % (num t : Int)).toNat (0, 0)
/-- what of the grids stands in the text -/
structure Uni (K : PySem.W.Frag) (w : World) (aG dU : Addr) (U : Bool → Addr) (us : Bool → List Addr) : Prop where
  grids : ∀ H, SqT K H aG [.str "square", .str "triangle"]
  key : ∀ t, KDct K w dU (nm t) (.ref (U t))
  tup : ∀ t H, SqT K H (U t) ((us t).map V.ref)
  len : ∀ t, (us t).length = num t
  pt : ∀ t (i : Nat) a p, (us t)[i]? = some a → (ux t)[i]? = some p → ∀ H, SqT K H a [.int p.1, .int p.2]
def gF (U : Bool → Addr) (t : Bool) : List (Str × V) := [("name", .str (nm t)), ("units", .ref (U t)), ("half", .int ((num t : Int) / 2)), ("slant", .int (sl t))]
def GridAt (C : Addr) (U : Bool → Addr) (H : Hp) (g : Addr) (t : Bool) : Prop := ∃ dx, H g = some (.ins C dx (gF U t))
structure GCls (K : PySem.W.Frag) (C : Addr) : Prop where
  cls : Cls K C
  name : NoAttr K C "name"
  units : NoAttr K C "units"
  half : NoAttr K C "half"
  slant : NoAttr K C "slant"
theorem put2 {a b : Str} {x y : V} (h : ¬ a = b) : putF b y [(a, x)] = [(a, x), (b, y)] := by
  show (if a = b then _ else (a, x) :: putF b y []) = _
  rw [if_neg h]
  rfl
theorem put3 {a b c : Str} {x y z : V} (h1 : ¬ a = c) (h2 : ¬ b = c) : putF c z [(a, x), (b, y)] = [(a, x), (b, y), (c, z)] := by
  show (if a = c then _ else (a, x) :: putF c z [(b, y)]) = _
  rw [if_neg h1, put2 h2]
theorem put4 {a b c d : Str} {x y z u : V} (h1 : ¬ a = d) (h2 : ¬ b = d) (h3 : ¬ c = d) : putF d u [(a, x), (b, y), (c, z)] = [(a, x), (b, y), (c, z), (d, u)] := by
  show (if a = d then _ else (a, x) :: putF d u [(b, y), (c, z)]) = _
  rw [if_neg h1, put3 h2 h3]
variable {K : PySem.W.Frag} {C : Addr} {U : Bool → Addr} {us : Bool → List Addr} {t : Bool}
theorem gF_units : (gF U t).lookup ("units" : Str) = some (.ref (U t)) := by unfold gF; cases t <;> rfl
theorem gF_slant : (gF U t).lookup ("slant" : Str) = some (.int (sl t)) := by unfold gF; cases t <;> rfl
theorem gF_half : (gF U t).lookup ("half" : Str) = some (.int ((num t : Int) / 2)) := by unfold gF; cases t <;> rfl
theorem gF_name : (gF U t).lookup ("name" : Str) = some (.str (nm t)) := by unfold gF; cases t <;> rfl
theorem GridAt.same {H H' : Hp} {g : Addr} (h : GridAt C U H g t) (s : Same H H') : GridAt C U H' g t := let ⟨dx, e⟩ := h; ⟨dx, s _ _ e⟩
theorem GridAt.got {p : Addr} {H H' : Hp} {g : Addr} (h : GridAt C U H g t) (s : Got p H H') (d : Die H p) : GridAt C U H' g t := by
  obtain ⟨dx, e⟩ := h
  obtain ⟨_, _, _, _, e0⟩ := d
  exact ⟨dx, s.keep _ _ e (ne_of e e0 (by intro z; cases z))⟩
/-- a point that stands at an address -/
def PAt (K : PySem.W.Frag) (H : Hp) (a : Addr) (u : Int × Int) : Prop := SqT K H a [.int u.1, .int u.2]
theorem PAt.same {H H' : Hp} {a : Addr} {u : Int × Int} (h : PAt K H a u) (s : Same H H') : PAt K H' a u := by
  rcases h with (z | ⟨o, z⟩) | z
  · exact .inl (.inl (s _ _ z))
  · exact .inl (.inr ⟨o, s _ _ z⟩)
  · exact .inr z
theorem PAt.got {p : Addr} {H H' : Hp} {a : Addr} {u : Int × Int} (h : PAt K H a u) (s : Got p H H') (d : Die H p) : PAt K H' a u := by
  obtain ⟨_, _, _, _, e0⟩ := d
  rcases h with (z | ⟨o, z⟩) | z
  · exact .inl (.inl (s.keep _ _ z (ne_of z e0 (by intro z; cases z))))
  · exact .inl (.inr ⟨o, s.keep _ _ z (ne_of z e0 (by intro z; cases z))⟩)
  · exact .inr z
theorem PAt.of {H : Hp} {a : Addr} {u : Int × Int} (h : H a = some (.tup [.int u.1, .int u.2])) : PAt K H a u := SqT.of h
def Sm (u : Int × Int) : Prop := u.1.natAbs < 2 ^ 3000 ∧ u.2.natAbs < 2 ^ 3000
theorem sm_mul {x y : Int} (hx : x.natAbs < 2 ^ 3000) (hy : y.natAbs < 2 ^ 3000) : CMulW x y := wide_mul hx hy (by decide) (by decide) (by decide)
theorem sl_mul {x : Int} (hx : x.natAbs < 2 ^ 6000) : CMulW (sl t) x := wide_mul (a := 1) (by cases t <;> decide) hx (by decide) (by decide) (by decide)
theorem num_pos : (0 : Int) < (num t : Int) := by cases t <;> decide
theorem len_ux : (ux t).length = num t := by cases t <;> rfl
theorem uni_at (k : Int) : (ux t)[(k % (num t : Int)).toNat]? = some (uni t k) := by
  have h1 := Int.emod_nonneg k (Int.ne_of_gt (num_pos (t := t)))
  have h2 := Int.emod_lt_of_pos k (num_pos (t := t))
  have h3 : (k % (num t : Int)).toNat < (ux t).length := by rw [len_ux]; omega
  rw [List.getElem?_eq_getElem h3]
  unfold uni
  rw [List.getD_eq_getElem?_getD, List.getElem?_eq_getElem h3]
  rfl
theorem uni_sm {k : Int} : Sm (uni t k) := by
  have h : ∀ p ∈ ux t, p.1.natAbs ≤ 1 ∧ p.2.natAbs ≤ 1 := by cases t <;> decide
  have z := h _ (List.mem_of_getElem? (uni_at (t := t) k))
  have b : (1 : Nat) < 2 ^ 3000 := by decide
  exact ⟨Nat.lt_of_le_of_lt z.1 b, Nat.lt_of_le_of_lt z.2 b⟩
theorem SqT.tup' {H : Hp} {a : Addr} {xs : List V} (h : SqT K H a xs) : Of K H (.ref a) .tup := by
  rcases h with (z | ⟨o, z⟩) | ⟨o, its, n, l, cl, _⟩
  · exact .base (.tup z)
  · exact .fTuple z
  · exact .kTuple l cl
theorem ptOk_sm {u : Int × Int} (h1 : isIntV (.int u.1) = true) (h2 : isIntV (.int u.2) = true) : Sm u := by
  rw [int_short] at h1 h2
  have b : (10 ^ 400 : Nat) ≤ 2 ^ 3000 := by decide +kernel
  exact ⟨Nat.lt_of_lt_of_le (of_decide_eq_true h1) b, Nat.lt_of_lt_of_le (of_decide_eq_true h2) b⟩
theorem len_put {f : Str} {y : V} : ∀ {fs : List (Str × V)}, (putF f y fs).length ≤ fs.length + 1
  | [] => Nat.le_refl _
  | (a, x) :: r => by
    show (if a = f then (a, y) :: r else (a, x) :: putF f y r).length ≤ _
    by_cases h : a = f
    · rw [if_pos h]; exact Nat.le_succ _
    · rw [if_neg h]; exact Nat.succ_le_succ len_put
theorem small_put {f : Str} {y : V} {fs : List (Str × V)} {n : Nat} (h : fs.length ≤ n) : (putF f y fs).length ≤ n + 1 := Nat.le_trans len_put (Nat.succ_le_succ h)
theorem bl_ne (x y : Bool) : (!decide (V.bl x = V.bl y)) = (x != y) := by cases x <;> cases y <;> decide +kernel
theorem bl_eq (x y : Bool) : decide (V.bl x = V.bl y) = (x == y) := by cases x <;> cases y <;> decide +kernel
theorem nat_eq (n m : Nat) : decide (V.int (n : Int) = V.int (m : Int)) = decide (n = m) := by
  by_cases h : n = m
  · subst h; rw [decide_eq_true rfl, decide_eq_true rfl]
  · rw [decide_eq_false h, decide_eq_false (fun z => h (by injection z with z; omega))]
/-! ### promises -/
def spInit (C : Addr) (U : Bool → Addr) : Sp := fun vs H Q _ => ∃ p dx t, vs = [.ref p, .str (nm t)] ∧ H p = some (.ins C dx []) ∧ ∀ H', (∀ b, b ≠ p → H' b = H b) → H' p = some (.ins C dx (gF U t)) → Q .non H'
def spTimes (K : PySem.W.Frag) (C : Addr) (U : Bool → Addr) : Sp := fun vs H Q _ => ∃ g t a b u v, vs = [.ref g, .ref a, .ref b] ∧ GridAt C U H g t ∧ PAt K H a u ∧ PAt K H b v ∧ Sm u ∧ Sm v ∧ ∀ p, H p = none → Q (.ref p) (upd H p (.tup [.int (mul t u v).1, .int (mul t u v).2]))
def spNorm (K : PySem.W.Frag) (C : Addr) (U : Bool → Addr) : Sp := fun vs H Q _ => ∃ g t a u, vs = [.ref g, .ref a] ∧ GridAt C U H g t ∧ PAt K H a u ∧ Sm u ∧ Q (.int (nrm t u)) H
def spFlip (K : PySem.W.Frag) (C : Addr) (U : Bool → Addr) : Sp := fun vs H Q _ => ∃ g t a u, vs = [.ref g, .ref a] ∧ GridAt C U H g t ∧ PAt K H a u ∧ Sm u ∧ ∀ p, H p = none → Q (.ref p) (upd H p (.tup [.int (flip t u).1, .int (flip t u).2]))
def spTurned (K : PySem.W.Frag) (C : Addr) (U : Bool → Addr) : Sp := fun vs H Q _ => ∃ g t a u k, vs = [.ref g, .ref a, .int k] ∧ GridAt C U H g t ∧ PAt K H a u ∧ Sm u ∧ ∀ p, H p = none → Q (.ref p) (upd H p (.tup [.int (mul t u (uni t k)).1, .int (mul t u (uni t k)).2]))
def ptOk (u : Int × Int) : Prop := isIntV (.int u.1) = true ∧ isIntV (.int u.2) = true
def spCheckP (K : PySem.W.Frag) : Sp := fun vs H Q _ => ∃ a u, vs = [.ref a] ∧ PAt K H a u ∧ ptOk u ∧ Q .non H
def spCheckN : Sp := fun vs H Q _ => ∃ k, vs = [.int k] ∧ isIntV (.int k) = true ∧ Q .non H
def spMUnit (K : PySem.W.Frag) (C : Addr) (U : Bool → Addr) : Sp := fun vs H Q _ => ∃ g t k, vs = [.ref g, .int k] ∧ GridAt C U H g t ∧ isIntV (.int k) = true ∧ ∀ i, (∀ H', PAt K H' i (uni t k)) → Q (.ref i) H
def spMNorm (K : PySem.W.Frag) (C : Addr) (U : Bool → Addr) : Sp := fun vs H Q _ => ∃ g t a u, vs = [.ref g, .ref a] ∧ GridAt C U H g t ∧ PAt K H a u ∧ ptOk u ∧ Q (.int (nrm t u)) H
def spMFlip (K : PySem.W.Frag) (C : Addr) (U : Bool → Addr) : Sp := fun vs H Q _ => ∃ g t a u, vs = [.ref g, .ref a] ∧ GridAt C U H g t ∧ PAt K H a u ∧ ptOk u ∧ ∀ p, H p = none → Q (.ref p) (upd H p (.tup [.int (flip t u).1, .int (flip t u).2]))
def spMTurned (K : PySem.W.Frag) (C : Addr) (U : Bool → Addr) : Sp := fun vs H Q _ => ∃ g t a u k, vs = [.ref g, .ref a, .int k] ∧ GridAt C U H g t ∧ PAt K H a u ∧ ptOk u ∧ isIntV (.int k) = true ∧ ∀ p, H p = none → Q (.ref p) (upd H p (.tup [.int (mul t u (uni t k)).1, .int (mul t u (uni t k)).2]))
def spMLen (C : Addr) (U : Bool → Addr) : Sp := fun vs H Q _ => ∃ g t, vs = [.ref g] ∧ GridAt C U H g t ∧ Q (.int (num t : Nat)) H
def alt (t : Bool) (e o : Int × Int) : Bool :=
  decide (dist [0, (e.2 - e.1) % (num t : Int), (o.1 - e.1) % (num t : Int), (o.2 - e.1) % (num t : Int)] = 4) &&
    (decide ((o.1 - e.1) % (num t : Int) < (e.2 - e.1) % (num t : Int)) != decide ((o.2 - e.1) % (num t : Int) < (e.2 - e.1) % (num t : Int)))
def spMAlt (K : PySem.W.Frag) (C : Addr) (U : Bool → Addr) : Sp := fun vs H Q _ => ∃ g t a b e o, vs = [.ref g, .ref a, .ref b] ∧ GridAt C U H g t ∧ PAt K H a e ∧ PAt K H b o ∧ ptOk e ∧ ptOk o ∧ ∀ H', Same H H' → Q (.bl (alt t e o)) H'
/-! ### the law's own grids -/
def PlainAt (H : Hp) (q : Addr) (t : Bool) : Prop := H q = some (.dK [(.inr "grid", .str (nm t))])
theorem PlainAt.get {H : Hp} {q : Addr} {t : Bool} (h : PlainAt H q t) : DGet H q (.str "grid") (some (.str (nm t))) := by
  have z := DGet.k (k := .inr "grid") h
  exact z
def spPlain : Sp := fun vs H Q _ => ∃ p, vs = [.ref p] ∧ Die H p ∧ ∀ q t H', H q = none → q ≠ p → PlainAt H' q t → Got p H H' → Q (.ref q) H'
def spAround : Sp := fun vs H Q _ => ∃ q t, vs = [.ref q] ∧ PlainAt H q t ∧ Q (.int (num t : Nat)) H
def spUnitL (K : PySem.W.Frag) : Sp := fun vs H Q _ => ∃ q t k, vs = [.ref q, .int k] ∧ PlainAt H q t ∧ ∀ p H', Same H H' → PAt K H' p (uni t k) → Q (.ref p) H'
def spTimesL (K : PySem.W.Frag) : Sp := fun vs H Q _ => ∃ q t a b u v, vs = [.ref q, .ref a, .ref b] ∧ PlainAt H q t ∧ PAt K H a u ∧ PAt K H b v ∧ Sm u ∧ Sm v ∧ ∀ p, H p = none → Q (.ref p) (upd H p (.tup [.int (mul t u v).1, .int (mul t u v).2]))
def spSpun (K : PySem.W.Frag) : Sp := fun vs H Q _ => ∃ q t a u k, vs = [.ref q, .ref a, .int k] ∧ PlainAt H q t ∧ PAt K H a u ∧ Sm u ∧ ∀ p H', Same H H' → PAt K H' p (mul t u (uni t k)) → Q (.ref p) H'
/-- how many of a pair have the rest d -/
def cnt2 (m : Int) (u : Int × Int) (d : Nat) : Nat := (if u.1 % m = (d : Int) then 1 else 0) + (if u.2 % m = (d : Int) then 1 else 0)
def metUp (m : Int) (e o : Int × Int) : Nat → List Int
  | 0 => []
  | d + 1 => (metUp m e o d ++ List.replicate (cnt2 m e d) 0) ++ List.replicate (cnt2 m o d) 1
def doAlt (m : Nat) (e o : Int × Int) : Bool := decide (dist [e.1 % (m : Int), e.2 % (m : Int), o.1 % (m : Int), o.2 % (m : Int)] = 4) && ([[0, 1, 0, 1], [1, 0, 1, 0]].any fun z => decide (z = metUp m e o m))
def spDoAlt (K : PySem.W.Frag) : Sp := fun vs H Q _ => ∃ t a b e o, vs = [.int (num t : Nat), .ref a, .ref b] ∧ PAt K H a e ∧ PAt K H b o ∧ ∀ H', Same H H' → Q (.bl (doAlt (num t) e o)) H'
/-! ### lists of ints -/
def intL (ns : List Int) : PyData := .list (ns.map .int)
theorem intL_dp {K : PySem.W.Frag} {H : Hp} : ∀ {ns : List Int}, DpAll K H (ns.map V.int) (ns.map .int)
  | [] => .nil
  | n :: _ => .cons (.int n) intL_dp
theorem intL_at {K : PySem.W.Frag} {H : Hp} {l : Addr} {ns : List Int} (h : H l = some (.lst (ns.map V.int))) : Dp K H (.ref l) (intL ns) := .lst (SqL.of h) intL_dp
theorem intL_eqv (a b : List Int) : PyData.eqv (intL a) (intL b) = decide (a = b) := by
  show PyData.eqvAll (a.map .int) (b.map .int) = _
  induction a generalizing b with
  | nil => cases b <;> simp [PyData.eqvAll]
  | cons x r ih =>
    cases b with
    | nil => simp [PyData.eqvAll]
    | cons y q =>
      rw [List.map_cons, List.map_cons, PyData.eqvAll, ih q, show PyData.eqv (.int x) (.int y) = (x == y) from rfl]
      rw [Bool.eq_iff_iff]
      simp
theorem flat_rep (c : Nat) (x : Int) : (List.replicate c [V.int x]).flatten = (List.replicate c x).map V.int := by
  induction c with
  | zero => rfl
  | succ n ih => rw [List.replicate_succ, List.flatten_cons, ih]; rfl
theorem metUp_len {m : Int} {e o : Int × Int} : ∀ i, (metUp m e o i).length ≤ 4 * i
  | 0 => Nat.le_refl _
  | i + 1 => by
    have := metUp_len (m := m) (e := e) (o := o) i
    have h : ∀ u : Int × Int, cnt2 m u i ≤ 2 := by intro u; unfold cnt2; split <;> split <;> decide
    have h1 := h e
    have h2 := h o
    rw [metUp, List.length_append, List.length_append, List.length_replicate, List.length_replicate]
    omega
theorem shaped_intL (ns : List Int) : SeqAt.shaped (intL ns) = true := PySem.W.shaped_ints ns
theorem int_eq {x y : Int} : decide (V.int x = V.int y) = decide (x = y) := by
  by_cases h : x = y
  · subst h; rw [decide_eq_true rfl, decide_eq_true rfl]
  · rw [decide_eq_false h, decide_eq_false (fun z => h (by injection z))]
/-- how many of the first j of a pair have the rest d -/
def cntU (m : Int) (u : Int × Int) (d : Nat) : Nat → Nat
  | 0 => 0
  | 1 => if u.1 % m = (d : Int) then 1 else 0
  | _ => cnt2 m u d
theorem cntU_all {m : Int} {u : Int × Int} {d : Nat} : cntU m u d [V.int u.1, V.int u.2].length = cnt2 m u d := rfl
theorem cnt2_le {m : Int} {u : Int × Int} {d : Nat} : cnt2 m u d ≤ 2 := by unfold cnt2; split <;> split <;> decide
theorem cntU_le {m : Int} {u : Int × Int} {d j : Nat} : cntU m u d j ≤ 2 := by
  match j with
  | 0 => exact Nat.zero_le _
  | 1 => show (if _ then 1 else 0) ≤ 2; split <;> decide
  | _ + 2 => exact cnt2_le
theorem pair_at {u : Int × Int} {j : Nat} {x : V} (h : [V.int u.1, V.int u.2][j]? = some x) : ∃ y, x = .int y ∧ [u.1, u.2][j]? = some y := by
  match j, h with
  | 0, h => exact ⟨_, (Option.some.inj h).symm, rfl⟩
  | 1, h => exact ⟨_, (Option.some.inj h).symm, rfl⟩
theorem cntU_yes {m : Int} {u : Int × Int} {d j : Nat} {y : Int} (h : [u.1, u.2][j]? = some y) (c : y % m = (d : Int)) : cntU m u d j + 1 = cntU m u d (j + 1) := by
  match j, h with
  | 0, h => cases (Option.some.inj h); show 0 + 1 = if _ then 1 else 0; rw [if_pos c]
  | 1, h => cases (Option.some.inj h); show (if _ then 1 else 0) + 1 = cnt2 m u d; unfold cnt2; rw [if_pos c]
theorem cntU_no {m : Int} {u : Int × Int} {d j : Nat} {y : Int} (h : [u.1, u.2][j]? = some y) (c : ¬ y % m = (d : Int)) : cntU m u d j = cntU m u d (j + 1) := by
  match j, h with
  | 0, h => cases (Option.some.inj h); show 0 = if _ then 1 else 0; rw [if_neg c]
  | 1, h => cases (Option.some.inj h); show (if _ then 1 else 0) = cnt2 m u d; unfold cnt2; rw [if_neg c]; rfl
/-! ### what the text has, for the end -/
def TupK (K : PySem.W.Frag) (a : Addr) (xs : List V) : Prop := ∃ (o : Obj) (its : Array Value) (n : Nat), K.lookup a = some o ∧ o.cls = .type "tuple" ∧ o.data = .seq its n ∧ its.size ≤ sizeLine ∧ Vals xs its.toList
theorem TupK.at {K : PySem.W.Frag} {a : Addr} {xs : List V} (h : TupK K a xs) (H : Hp) : SqT K H a xs := .inr h
theorem uni_mk {K : PySem.W.Frag} {w : World} {aG dU aS aT s0 s1 s2 s3 t0 t1 t2 t3 t4 t5 : Addr} (g : TupK K aG [.str "square", .str "triangle"]) (kS : KDct K w dU "square" (.ref aS)) (kT : KDct K w dU "triangle" (.ref aT))
    (hS : TupK K aS [.ref s0, .ref s1, .ref s2, .ref s3]) (hT : TupK K aT [.ref t0, .ref t1, .ref t2, .ref t3, .ref t4, .ref t5])
    (p0 : TupK K s0 [.int 1, .int 0]) (p1 : TupK K s1 [.int 0, .int 1]) (p2 : TupK K s2 [.int (-1), .int 0]) (p3 : TupK K s3 [.int 0, .int (-1)])
    (q0 : TupK K t0 [.int 1, .int 0]) (q1 : TupK K t1 [.int 0, .int 1]) (q2 : TupK K t2 [.int (-1), .int 1]) (q3 : TupK K t3 [.int (-1), .int 0]) (q4 : TupK K t4 [.int 0, .int (-1)]) (q5 : TupK K t5 [.int 1, .int (-1)]) :
    Uni K w aG dU (fun t => cond t aT aS) (fun t => cond t [t0, t1, t2, t3, t4, t5] [s0, s1, s2, s3]) where
  grids := g.at
  key := fun t => by cases t; exact kS; exact kT
  tup := fun t H => by cases t; exact hS.at H; exact hT.at H
  len := fun t => by cases t <;> rfl
  pt := fun t i a p ha hp H => by
    cases t
    · match i, ha, hp with
      | 0, ha, hp => cases Option.some.inj ha; cases Option.some.inj hp; exact p0.at H
      | 1, ha, hp => cases Option.some.inj ha; cases Option.some.inj hp; exact p1.at H
      | 2, ha, hp => cases Option.some.inj ha; cases Option.some.inj hp; exact p2.at H
      | 3, ha, hp => cases Option.some.inj ha; cases Option.some.inj hp; exact p3.at H
    · match i, ha, hp with
      | 0, ha, hp => cases Option.some.inj ha; cases Option.some.inj hp; exact q0.at H
      | 1, ha, hp => cases Option.some.inj ha; cases Option.some.inj hp; exact q1.at H
      | 2, ha, hp => cases Option.some.inj ha; cases Option.some.inj hp; exact q2.at H
      | 3, ha, hp => cases Option.some.inj ha; cases Option.some.inj hp; exact q3.at H
      | 4, ha, hp => cases Option.some.inj ha; cases Option.some.inj hp; exact q4.at H
      | 5, ha, hp => cases Option.some.inj ha; cases Option.some.inj hp; exact q5.at H
theorem kdct_mk {K : PySem.W.Frag} {w : World} {a v : Addr} {x : Str} {es : Array DictEntry} {n : Nat} (l : K.lookup a = some ⟨.type "dict", none, .dict es n, #[]⟩) (k : PySem.W.nsIn K a x = some (some (.ref v))) (kk : PySem.W.KeysLit w.params es.toList) : KDct K w a x (.ref v) :=
  ⟨es, n, .ref v, l, kk, k, rfl⟩
end GL
namespace GL
open PySem PySem.Spec PyProof.Rows L2
/-! ### what turns do to points -/
variable {t : Bool} {u : Int × Int} {a b k : Int}
theorem uni_congr {k l : Int} (h : k % (num t : Int) = l % (num t : Int)) : uni t k = uni t l := by unfold uni; rw [h]
theorem res4 (k : Int) : k % 4 = 0 ∨ k % 4 = 1 ∨ k % 4 = 2 ∨ k % 4 = 3 := by omega
theorem res6 (k : Int) : k % 6 = 0 ∨ k % 6 = 1 ∨ k % 6 = 2 ∨ k % 6 = 3 ∨ k % 6 = 4 ∨ k % 6 = 5 := by omega
theorem u4 : uni false 0 = (1, 0) ∧ uni false 1 = (0, 1) ∧ uni false 2 = (-1, 0) ∧ uni false 3 = (0, -1) := ⟨rfl, rfl, rfl, rfl⟩
theorem turn_add : mul t (mul t u (uni t a)) (uni t b) = mul t u (uni t (a + b)) := by
  obtain ⟨x, y⟩ := u
  cases t
  · rcases res4 a with h1 | h1 | h1 | h1 <;> rcases res4 b with h2 | h2 | h2 | h2 <;>
      (have e1 := uni_congr (t := false) (k := a) (l := a % 4) (by show a % 4 = (a % 4) % 4; omega)
       have e2 := uni_congr (t := false) (k := b) (l := b % 4) (by show b % 4 = (b % 4) % 4; omega)
       have e3 := uni_congr (t := false) (k := a + b) (l := a % 4 + b % 4) (by show (a + b) % 4 = (a % 4 + b % 4) % 4; omega)
       rw [h1] at e1
       rw [h2] at e2
       rw [h1, h2] at e3
       rw [e1, e2, e3]
       refine Prod.ext ?_ ?_ <;> simp [mul, sl, uni, ux, num] <;> omega)
  · rcases res6 a with h1 | h1 | h1 | h1 | h1 | h1 <;> rcases res6 b with h2 | h2 | h2 | h2 | h2 | h2 <;>
      (have e1 := uni_congr (t := true) (k := a) (l := a % 6) (by show a % 6 = (a % 6) % 6; omega)
       have e2 := uni_congr (t := true) (k := b) (l := b % 6) (by show b % 6 = (b % 6) % 6; omega)
       have e3 := uni_congr (t := true) (k := a + b) (l := a % 6 + b % 6) (by show (a + b) % 6 = (a % 6 + b % 6) % 6; omega)
       rw [h1] at e1
       rw [h2] at e2
       rw [h1, h2] at e3
       rw [e1, e2, e3]
       refine Prod.ext ?_ ?_ <;> simp [mul, sl, uni, ux, num] <;> omega)
theorem uni_red4 (k : Int) : uni false k = uni false (k % 4) := uni_congr (t := false) (by show k % 4 = (k % 4) % 4; omega)
theorem uni_red6 (k : Int) : uni true k = uni true (k % 6) := uni_congr (t := true) (by show k % 6 = (k % 6) % 6; omega)
theorem turn_all : mul t u (uni t (num t : Nat)) = u := by
  obtain ⟨x, y⟩ := u
  cases t <;> (refine Prod.ext ?_ ?_ <;> simp [mul, sl, uni, ux, num])
theorem turn_half : mul t u (uni t ((num t : Int) / 2)) = (0 - u.1, 0 - u.2) := by
  obtain ⟨x, y⟩ := u
  cases t <;> (refine Prod.ext ?_ ?_ <;> simp [mul, sl, uni, ux, num])
theorem turn_one : mul t (1, 0) (uni t k) = uni t k := by
  generalize uni t k = v
  obtain ⟨x, y⟩ := v
  cases t <;> (refine Prod.ext ?_ ?_ <;> simp [mul, sl])
theorem turn_flip : flip t (mul t (flip t u) (uni t k)) = mul t u (uni t (0 - k)) := by
  obtain ⟨x, y⟩ := u
  cases t
  · rcases res4 k with h1 | h1 | h1 | h1 <;>
      (have e1 := uni_red4 k
       have e3 := uni_congr (t := false) (k := 0 - k) (l := 0 - k % 4) (by show (0 - k) % 4 = (0 - k % 4) % 4; omega)
       rw [h1] at e1 e3
       rw [e1, e3]
       refine Prod.ext ?_ ?_ <;> simp [flip, mul, sl, uni, ux, num] <;> omega)
  · rcases res6 k with h1 | h1 | h1 | h1 | h1 | h1 <;>
      (have e1 := uni_red6 k
       have e3 := uni_congr (t := true) (k := 0 - k) (l := 0 - k % 6) (by show (0 - k) % 6 = (0 - k % 6) % 6; omega)
       rw [h1] at e1 e3
       rw [e1, e3]
       refine Prod.ext ?_ ?_ <;> simp [flip, mul, sl, uni, ux, num] <;> omega)
theorem turn_norm : nrm t (mul t u (uni t k)) = nrm t u := by
  obtain ⟨x, y⟩ := u
  cases t
  · rcases res4 k with h1 | h1 | h1 | h1 <;>
      (have e1 := uni_red4 k
       rw [h1] at e1
       rw [e1]
       simp [nrm, mul, sl, uni, ux, num] <;> grind)
  · rcases res6 k with h1 | h1 | h1 | h1 | h1 | h1 <;>
      (have e1 := uni_red6 k
       rw [h1] at e1
       rw [e1]
       simp [nrm, mul, sl, uni, ux, num] <;> grind)
/-- small points -/
def Le (n : Nat) (u : Int × Int) : Prop := u.1.natAbs ≤ n ∧ u.2.natAbs ≤ n
theorem Le.turn {n : Nat} (h : Le n u) : Le (2 * n) (mul t u (uni t k)) := by
  obtain ⟨x, y⟩ := u
  obtain ⟨h1, h2⟩ : x.natAbs ≤ n ∧ y.natAbs ≤ n := h
  cases t
  · rcases res4 k with h1 | h1 | h1 | h1 <;>
      (have e1 := uni_red4 k
       rw [h1] at e1
       rw [e1]
       refine ⟨?_, ?_⟩ <;> simp [mul, sl, uni, ux, num] <;> omega)
  · rcases res6 k with h1 | h1 | h1 | h1 | h1 | h1 <;>
      (have e1 := uni_red6 k
       rw [h1] at e1
       rw [e1]
       refine ⟨?_, ?_⟩ <;> simp [mul, sl, uni, ux, num] <;> omega)
theorem Le.flip {n : Nat} (h : Le n u) : Le (2 * n) (flip t u) := by
  obtain ⟨x, y⟩ := u
  obtain ⟨h1, h2⟩ : x.natAbs ≤ n ∧ y.natAbs ≤ n := h
  cases t <;> (refine ⟨?_, ?_⟩ <;> simp [GL.flip, sl] <;> omega)
theorem short_of {x : Int} (h : x.natAbs ≤ 10 ^ 9) : isIntV (.int x) = true := by rw [int_short]; exact decide_eq_true (Nat.lt_of_le_of_lt h (by decide +kernel))
theorem Le.ok {n : Nat} (h : Le n u) (hn : n ≤ 10 ^ 9) : ptOk u := ⟨short_of (Nat.le_trans h.1 hn), short_of (Nat.le_trans h.2 hn)⟩
theorem Le.sm {n : Nat} (h : Le n u) (hn : n ≤ 10 ^ 9) : Sm u := ptOk_sm (h.ok hn).1 (h.ok hn).2
/-! ### the text of a small point -/
def ptD (u : Int × Int) : PyData := .tuple [.int u.1, .int u.2]
theorem ptD_at {K : PySem.W.Frag} {H : Hp} {a : Addr} (h : PAt K H a u) : Dp K H (.ref a) (ptD u) := .tup h (.cons (.int _) (.cons (.int _) .nil))
theorem one_short : ∀ i : Fin 401, (PyData.shown (.int ((i.val : Int) - 200))).length ≤ 13 := by decide +kernel
theorem int_shown {x : Int} (h : x.natAbs ≤ 200) : (PyData.shown (.int x)).length ≤ 13 := by
  have z := one_short ⟨(x + 200).toNat, by omega⟩
  have e : (((x + 200).toNat : Nat) : Int) - 200 = x := by omega
  rw [e] at z
  exact z
theorem ptD_ok (h : Le 200 u) : (ptD u).showable = true ∧ (ptD u).hasDict = false ∧ (ptD u).depth ≤ 20 ∧ (ptD u).shown.length ≤ sizeLine := by
  have sh : ∀ {x : Int}, x.natAbs ≤ 200 → PyData.showable (.int x) = true := fun {x} h => by
    simp only [PyData.showable]
    exact decide_eq_true (Nat.lt_of_le_of_lt (Nat.log2_le_self _) (Nat.lt_of_le_of_lt h (by decide)))
  refine ⟨?_, ?_, ?_, ?_⟩
  · simp only [ptD, PyData.showable, PyData.showableAll, Bool.and_eq_true, Bool.and_true]
    have a1 := sh h.1
    have a2 := sh h.2
    simp only [PyData.showable] at a1 a2
    exact ⟨a1, a2⟩
  · simp [ptD, PyData.hasDict, PyData.hasDictAll]
  · simp [ptD, PyData.depth, PyData.depthAll]
  · refine Nat.le_trans (shown_le13 (d := ptD u) ?_ ?_) (by decide)
    · simp [ptD, PyData.layable0, PyData.canLay0, PyData.canLayAll0, PyData.depth, PyData.depthAll, PyData.weight, PyData.weightAll]
      have l1 : u.fst.natAbs.log2 ≤ 200 := Nat.le_trans (Nat.log2_le_self _) h.1
      have l2 : u.snd.natAbs.log2 ≤ 200 := Nat.le_trans (Nat.log2_le_self _) h.2
      split <;> split <;> omega
    · simp only [ptD, PyData.intsShort, PyData.intsShortAll, Bool.and_eq_true, Bool.and_true]
      exact ⟨decide_eq_true (int_shown h.1), decide_eq_true (int_shown h.2)⟩
theorem ptD_shaped (u : Int × Int) : SeqAt.shaped (ptD u) = true := by
  simp [ptD, SeqAt.shaped, PyData.canLay0, PyData.canLayAll0, PyData.depth, PyData.depthAll]
theorem ptD_eqv (u v : Int × Int) : PyData.eqv (ptD u) (ptD v) = decide (u = v) := by
  obtain ⟨x, y⟩ := u
  obtain ⟨z, w⟩ := v
  show PyData.eqvAll [.int x, .int y] [.int z, .int w] = _
  simp only [PyData.eqvAll]
  rw [show PyData.eqv (.int x) (.int z) = (x == z) from rfl, show PyData.eqv (.int y) (.int w) = (y == w) from rfl, Bool.eq_iff_iff]
  simp
theorem ptD_self (u : Int × Int) : PyData.eqv (ptD u) (ptD u) = true := by rw [ptD_eqv]; exact decide_eq_true rfl
theorem PlainAt.got {p q : Addr} {H H' : Hp} (h : PlainAt H q t) (s : Got p H H') (d : Die H p) : PlainAt H' q t := by
  obtain ⟨_, _, _, _, e0⟩ := d
  exact s.keep _ _ h (ne_of h e0 (by intro z; cases z))
def spTurns (C : Addr) (U : Bool → Addr) : Sp := fun vs H Q _ => ∃ p q g t, vs = [.ref p, .ref q, .ref g] ∧ Die H p ∧ PlainAt H q t ∧ GridAt C U H g t ∧ ∀ H', Got p H H' → Q (.bl true) H'
theorem Got.over_same {p : Addr} {H H1 H2 : Hp} (g : Got p H H1) (s : Same H1 H2) : Got p H H2 :=
  ⟨fun b o e n => s _ _ (g.keep b o e n), let ⟨l, b, c, l0, e⟩ := g.die; ⟨l, b, c, l0, s _ _ e⟩⟩
theorem str_self (x : Str) : (!decide (V.str x = V.str x)) = false := by rw [decide_eq_true rfl]; rfl
theorem int_self (x : Int) : (!decide (V.int x = V.int x)) = false := by rw [decide_eq_true rfl]; rfl
theorem Le.mono {n m : Nat} (h : Le n u) (hn : n ≤ m) : Le m u := ⟨Nat.le_trans h.1 hn, Nat.le_trans h.2 hn⟩
theorem uni_mod {t : Bool} (k : Int) : uni t (k % (num t : Int)) = uni t k := uni_congr (Int.emod_emod_of_dvd _ (Int.dvd_refl _))
theorem small_mod {t : Bool} (k : Int) : isIntV (.int (k % (num t : Int))) = true := by
  have h1 := Int.emod_nonneg k (Int.ne_of_gt (num_pos (t := t)))
  have h2 := Int.emod_lt_of_pos k (num_pos (t := t))
  have h3 : num t ≤ 6 := by cases t <;> decide
  refine short_of (Nat.le_trans (show _ ≤ 6 by omega) (by decide))
theorem num_small {t : Bool} : ((num t : Nat) : Int) < 2 ^ 63 := by cases t <;> decide
theorem num_ok {t : Bool} : isIntV (.int (num t : Nat)) = true := by cases t <;> exact short_of (by decide)
theorem half_ok {t : Bool} : isIntV (.int ((num t : Int) / 2)) = true := by cases t <;> exact short_of (by decide)
/-! ### all pairs of pairs of directions -/
theorem alt_fin4 : ∀ a b c d : Fin 4, (let D := doAlt 4 ((a.val : Int), (b.val : Int)) ((c.val : Int), (d.val : Int))
    alt false ((a.val : Int), (b.val : Int)) ((c.val : Int), (d.val : Int)) = D ∧ alt false ((c.val : Int), (d.val : Int)) ((a.val : Int), (b.val : Int)) = D ∧ alt false ((b.val : Int), (a.val : Int)) ((c.val : Int), (d.val : Int)) = D ∧
    alt false (0 - (a.val : Int), 0 - (b.val : Int)) (0 - (c.val : Int), 0 - (d.val : Int)) = D) := by decide +kernel
theorem alt_fin6 : ∀ a b c d : Fin 6, (let D := doAlt 6 ((a.val : Int), (b.val : Int)) ((c.val : Int), (d.val : Int))
    alt true ((a.val : Int), (b.val : Int)) ((c.val : Int), (d.val : Int)) = D ∧ alt true ((c.val : Int), (d.val : Int)) ((a.val : Int), (b.val : Int)) = D ∧ alt true ((b.val : Int), (a.val : Int)) ((c.val : Int), (d.val : Int)) = D ∧
    alt true (0 - (a.val : Int), 0 - (b.val : Int)) (0 - (c.val : Int), 0 - (d.val : Int)) = D) := by decide +kernel
theorem alt_four {t : Bool} {a b c d : Int} (ha : 0 ≤ a ∧ a < (num t : Int)) (hb : 0 ≤ b ∧ b < (num t : Int)) (hc : 0 ≤ c ∧ c < (num t : Int)) (hd : 0 ≤ d ∧ d < (num t : Int)) :
    alt t (a, b) (c, d) = doAlt (num t) (a, b) (c, d) ∧ alt t (c, d) (a, b) = doAlt (num t) (a, b) (c, d) ∧ alt t (b, a) (c, d) = doAlt (num t) (a, b) (c, d) ∧ alt t (0 - a, 0 - b) (0 - c, 0 - d) = doAlt (num t) (a, b) (c, d) := by
  obtain ⟨a, rfl⟩ : ∃ n : Nat, a = (n : Int) := ⟨a.toNat, by omega⟩
  obtain ⟨b, rfl⟩ : ∃ n : Nat, b = (n : Int) := ⟨b.toNat, by omega⟩
  obtain ⟨c, rfl⟩ : ∃ n : Nat, c = (n : Int) := ⟨c.toNat, by omega⟩
  obtain ⟨d, rfl⟩ : ∃ n : Nat, d = (n : Int) := ⟨d.toNat, by omega⟩
  cases t
  · exact alt_fin4 ⟨a, Int.ofNat_lt.mp ha.2⟩ ⟨b, Int.ofNat_lt.mp hb.2⟩ ⟨c, Int.ofNat_lt.mp hc.2⟩ ⟨d, Int.ofNat_lt.mp hd.2⟩
  · exact alt_fin6 ⟨a, Int.ofNat_lt.mp ha.2⟩ ⟨b, Int.ofNat_lt.mp hb.2⟩ ⟨c, Int.ofNat_lt.mp hc.2⟩ ⟨d, Int.ofNat_lt.mp hd.2⟩
theorem alt_next {t : Bool} {a b c d : Int} : alt t (a + 1, b + 1) (c + 1, d + 1) = alt t (a, b) (c, d) := by
  unfold alt
  rw [show b + 1 - (a + 1) = b - a by omega, show c + 1 - (a + 1) = c - a by omega, show d + 1 - (a + 1) = d - a by omega]
theorem alt_far {t : Bool} {a b c d s : Int} (hs : s % (num t : Int) = 0) : alt t (a + s, b) (c, d - (num t : Nat)) = alt t (a, b) (c, d) := by
  unfold alt
  have e1 : (b - (a + s)) % (num t : Int) = (b - a) % (num t : Int) := by cases t <;> (simp only [num] at hs ⊢; omega)
  have e2 : (c - (a + s)) % (num t : Int) = (c - a) % (num t : Int) := by cases t <;> (simp only [num] at hs ⊢; omega)
  have e3 : (d - (num t : Nat) - (a + s)) % (num t : Int) = (d - a) % (num t : Int) := by cases t <;> (simp only [num] at hs ⊢; omega)
  simp only [e1, e2, e3]
theorem b6_ok (x : Bool) : (bls [x, x, x, x, x, x]).showable = true ∧ (bls [x, x, x, x, x, x]).hasDict = false ∧ (bls [x, x, x, x, x, x]).depth ≤ 20 ∧ (bls [x, x, x, x, x, x]).shown.length ≤ sizeLine := by
  cases x <;> exact ⟨by decide +kernel, by decide +kernel, by decide +kernel, by decide +kernel⟩
theorem sub_mod (n : Int) {m : Int} (h : 0 < m) : (n - n % m) % m = 0 := by
  rw [Int.sub_emod, Int.emod_emod_of_dvd _ (Int.dvd_refl _), Int.sub_self, Int.zero_emod]
theorem sub_small (n : Int) {m : Int} (h : 0 < m) (h6 : m ≤ 6) (hn : (if n < 0 then -n else n) < (10 : Int) ^ (50 : Int).toNat * (10 : Int) ^ (50 : Int).toNat) : (n - n % m).natAbs ≤ 10 ^ 101 := by
  have h1 := Int.emod_nonneg n (Int.ne_of_gt h)
  have h2 := Int.emod_lt_of_pos n h
  have e : (10 : Int) ^ (50 : Int).toNat * (10 : Int) ^ (50 : Int).toNat = ((10 ^ 100 : Nat) : Int) := by decide +kernel
  rw [e] at hn
  have b : (10 ^ 100 : Nat) + 6 ≤ 10 ^ 101 := by decide +kernel
  generalize (10 ^ 100 : Nat) = N at *
  generalize (10 ^ 101 : Nat) = M at *
  split at hn <;> omega
theorem far_ok {x s : Int} (hs : s.natAbs ≤ 10 ^ 101) (hx : x.natAbs ≤ 10) : isIntV (.int (x + s)) = true := by
  rw [int_short]
  refine decide_eq_true (Nat.lt_of_le_of_lt (show _ ≤ 10 ^ 101 + 10 by generalize (10 ^ 101 : Nat) = M at *; omega) (by decide +kernel))
theorem same_made {H H3 : Hp} {x dx : Addr} {o1 o2 : HO} (hx : H x = none) (hdx : H dx = none) (hk : ∀ b, b ≠ x → H3 b = upd (upd H dx o1) x o2 b) : Same H H3 := by
  intro b o e
  have n1 := ne_of_none e hx
  have n2 := ne_of_none e hdx
  rw [hk b n1, upd_ne n1, upd_ne n2]
  exact e
end GL
/-! repr of lists and tuples of ints that have up to 4300 digits -/
namespace GL
open PySem PySem.Spec PyProof.Rows L2
def Big (i : Int) : Prop := i.natAbs < 10 ^ 4300
section
variable {prog : Program} {w : World} {h₀ : Heap}
theorem big_call {A : Around} {E : Value → Shared → Prop} {s : Shared} {Q : Value → Shared → Prop} {i : Int} {t : Tok} (nd : s.heap.NoDigits) (hi : Big i) (h : Q (.str (toString i) s.toks) { s with toks := s.toks + 1 }) :
    wpAny (model prog w) A (call (.builtin "int.__repr__") [.int i t]) Q E s := by
  refine wpAny_call_entry F.slot_int_repr (typeIs_int s i t) F.entry_int_repr ?_ (F.args_int_repr_1 _)
  unfold Builtin.«int.__repr__»
  show wpAny (model prog w) _ (Builtin.overDigitLimit? i >>= _) _ _ s
  refine wpAny_bind (overDigitLimit_any nd (fun lt => ?_) (fun ge => absurd hi (Nat.not_lt.mpr ge)))
  exact wpAny_bind (wpAny_mkStr (wpAny_pure ⟨_, rfl, h⟩) (int_text_fits10 lt))
theorem big_leaf (nd : h₀.NoDigits) {i : Int} (t : Tok) (hi : Big i) (as : List Addr) (d : Nat) : ReprK prog w as h₀ d (.int i t) (toString i) := by
  intro base hb A g E s Q hg hcl hu hk hQ
  have hb' : base ≤ sizeLine := Nat.le_trans (Nat.le_add_right _ _) hb
  rw [pyReprUnder_leaf (v := Value.int i t) hb' (fun _ z => by cases z)]
  unfold pyRepr
  refine wpAny_bind (wpAny_pyReprObj_slot (Nat.lt_of_le_of_lt (Nat.le_add_right _ _) hu) (typeIs_int s i t) F.slot_int_repr.toG (big_call (nd.keeps hk) hi ⟨_, _, rfl, ?_⟩))
  exact wpAny_pure (hQ s.heap _ fun _ _ e => e)
/-- ints alone -/
def BigInts (ds : List PyData) : Prop := ∀ d ∈ ds, ∃ i, d = .int i ∧ Big i
theorem int_at {v : Value} {i : Int} {as : List Addr} (r : Reads h₀ v (.int i) as) : ∃ t, v = .int i t := by
  cases r
  exact ⟨_, rfl⟩
theorem big_ints (nd : h₀.NoDigits) (as : List Addr) (n : Nat) : ∀ {vs : List Value} {ds : List PyData} {bs : List Addr}, ReadsAll h₀ vs ds bs → BigInts ds → ReprAllK prog w as h₀ n vs (PyData.shownAll ds)
  | _, _, _, .nil, _ => by simp only [PyData.shownAll]; exact .nil
  | _, _, _, .cons (d := d) r rs, h => by
    obtain ⟨i, e, hi⟩ := h d (List.mem_cons_self ..)
    subst e
    obtain ⟨t, e⟩ := int_at r
    subst e
    simp only [PyData.shownAll, PyData.shown]
    exact .cons (big_leaf nd t hi as n) (big_ints nd as n rs (fun d hd => h d (List.mem_cons_of_mem _ hd)))
/-- an int, or a tuple of ints -/
inductive BigItem : PyData → Prop where
  | int {i : Int} : Big i → BigItem (.int i)
  | tup {xs : List PyData} : BigInts xs → BigItem (.tuple xs)
theorem depth_ints : ∀ {ds : List PyData}, BigInts ds → PyData.depthAll ds ≤ 0
  | [], _ => by simp [PyData.depthAll]
  | d :: r, h => by
    obtain ⟨i, e, _⟩ := h d (List.mem_cons_self ..)
    subst e
    have := depth_ints (ds := r) (fun d hd => h d (List.mem_cons_of_mem _ hd))
    simp only [PyData.depthAll, PyData.depth]
    omega
theorem big_item (nd : h₀.NoDigits) {v : Value} {d : PyData} {as : List Addr} (r : Reads h₀ v d as) (h : BigItem d) : ∃ bs, ReadAtMost h₀ 1 bs ∧ ReprK prog w bs h₀ 2 v d.shown := by
  cases h with
  | @int i hi =>
    obtain ⟨t, e⟩ := int_at r
    subst e
    exact ⟨[], (fun _ z => by cases z), by simp only [PyData.shown]; exact big_leaf nd t hi [] 2⟩
  | @tup xs hx =>
    have dp := depth_ints hx
    cases r with
    | tuple h1 h2 h3 h4 =>
      rename_i a o vs n
      have k := big_ints (prog := prog) (w := w) nd [] 1 h4 hx
      refine ⟨[a], fun b hb => ?_, ?_⟩
      · rw [List.mem_singleton.mp hb]
        exact ⟨_, _, .tuple h1 h2 h3 h4, by simp only [PyData.depth]; omega⟩
      · simp only [PyData.shown]
        exact ReprK.tuple h1 h2 h3 (fun z => by cases z) k
theorem big_items (nd : h₀.NoDigits) : ∀ {vs : List Value} {ds : List PyData} {bs : List Addr}, ReadsAll h₀ vs ds bs → (∀ d ∈ ds, BigItem d) → ∃ cs, ReadAtMost h₀ 1 cs ∧ ReprAllK prog w cs h₀ 2 vs (PyData.shownAll ds)
  | _, _, _, .nil, _ => ⟨[], (fun _ z => by cases z), by simp only [PyData.shownAll]; exact .nil⟩
  | _, _, _, .cons (d := d) r rs, h => by
    obtain ⟨c1, m1, k1⟩ := big_item (prog := prog) (w := w) nd r (h d (List.mem_cons_self ..))
    obtain ⟨c2, m2, k2⟩ := big_items nd rs (fun d hd => h d (List.mem_cons_of_mem _ hd))
    refine ⟨c1 ++ c2, fun b hb => (List.mem_append.mp hb).elim (m1 b) (m2 b), ?_⟩
    simp only [PyData.shownAll]
    exact .cons (k1.more fun b hb => List.mem_append_left _ hb) (k2.more_le (fun b hb => List.mem_append_right _ hb) (Nat.le_refl _))
theorem depth_items : ∀ {ds : List PyData}, (∀ d ∈ ds, BigItem d) → PyData.depthAll ds ≤ 1
  | [], _ => by simp [PyData.depthAll]
  | d :: r, h => by
    have h2 := depth_items (ds := r) (fun d hd => h d (List.mem_cons_of_mem _ hd))
    have h1 : d.depth ≤ 1 := by
      cases h d (List.mem_cons_self ..) with
      | int _ => simp [PyData.depth]
      | tup hx => have := depth_ints hx; simp only [PyData.depth]; omega
    simp only [PyData.depthAll]
    omega
/-- repr of a list that is not empty -/
theorem repr_big {A : Around} {E : Value → Shared → Prop} {s : Shared} {Q : Value → Shared → Prop} {a : Addr} {ds : List PyData} {as : List Addr} (nd : s.heap.NoDigits) (r : Reads s.heap (.ref a) (.list ds) as) (h : ∀ d ∈ ds, BigItem d) (ne : ds ≠ [])
    (hg : A.guards = some []) (hu : A.units + 10 < cLine) (hz : (PyData.shown (.list ds)).length ≤ sizeLine) (dp : 1 < (PyData.list ds).depth)
    (hQ : ∀ h' u tk, (∀ b o, s.heap.get? b = some o → h'.get? b = some o) → Q (.str (PyData.shown (.list ds)) u) { s with heap := h', toks := tk }) : wpAny (model prog w) A (call (.builtin "repr") [.ref a]) Q E s := by
  cases r with
  | list h1 h2 h3 h4 =>
    rename_i o vs n bs₀
    obtain ⟨cs, m, k⟩ := big_items (prog := prog) (w := w) nd h4 h
    obtain ⟨l⟩ := vs
    cases l with
    | nil =>
      have h4' : ReadsAll s.heap [] ds _ := h4
      cases h4'
      exact absurd rfl ne
    | cons x l =>
      refine call_repr_slot (by omega) (T := "list") (idr := "list.__repr__") ⟨o, h1, h2⟩ F.slot_list_repr.toG ?_
      simp only [PyData.shown] at hQ hz
      exact call_list_reprK h1 h2 h3 (not_mem_of_deeper (.list h1 h2 h3 h4) dp m) (by simpa using k.length_eq) (fun i y e => k.item i y (by simpa using e)) hg (fun b _ => Clear.nil b) (by show A.units + 1 + 3 < cLine; omega) (fun _ _ e => e) (fun h' u tk hk => ⟨_, _, rfl, hQ h' u tk hk⟩) hz
end
theorem ns_none {K : PySem.W.Frag} {h : Heap} {m : Str → Option Value} {a : Addr} {n : Str} (X : K.In h) (G : h.Ns a m) (e : PySem.W.nsIn K a n = some none) : m n = none := by
  obtain ⟨ob, es, ep, here, isDict, _, get⟩ := G
  rw [← get]
  unfold PySem.W.nsIn at e
  split at e
  case h_1 q =>
    cases (X _ _ q).symm.trans here
    cases isDict
    split at e
    case h_1 => cases e
    case h_2 no => unfold nsFind findBy; simp only [← Array.find?_toList, no]; rfl
  case h_2 => cases e
theorem big_base {X : Cx} {pins : List (Addr × Obj)} {σ : L2.St} {H : Hp} {s : Shared} (dig : PySem.W.nsIn X.K cStatics "sys.int_max_str_digits" = some none) (I : Inv X pins σ H s) : s.heap.NoDigits := by
  obtain ⟨mc, hns, _⟩ := I.nolimit
  exact ⟨mc, hns, ns_none I.kIn hns dig⟩
def rReprBig (K : PySem.W.Frag) : List V → Hp → VK → Prop := fun xs H Q => ∃ a ds, xs = [.ref a] ∧ Dp K H (.ref a) (.list ds) ∧ (∀ d ∈ ds, BigItem d) ∧ ds ≠ [] ∧ 1 < (PyData.list ds).depth ∧ (PyData.shown (.list ds)).length ≤ sizeLine ∧ Q (.str (PyData.shown (.list ds))) H
theorem call_reprBig {X : Cx} (dig : PySem.W.nsIn X.K cStatics "sys.int_max_str_digits" = some none) (hg : Gd X.A) (hu : X.A.units + 64 < cLine) : CallR X (.builtin "repr") (rReprBig X.K) := by
  intro pins s σ H xs us Q I r h
  obtain ⟨a, ds, rfl, hd, hb, ne, dp, hz, q⟩ := h
  obtain ⟨u, rfl, r1⟩ := vals1 r
  cases (show u = Value.ref a from r1)
  obtain ⟨as, hr⟩ := Dp.reads I (.list ds) (.ref a) (.ref a) hd rfl
  exact repr_big (big_base dig I) hr hb ne hg (by omega) hz dp (fun h' u tk hk => ⟨.str _, H, I.kept hk, ⟨_, rfl⟩, q⟩)
/-! ### how long the text of such a list is -/
end GL
namespace GL
open PySem PySem.Spec PyProof.Rows L2
/-! ### products and quotients -/
section
variable {t : Bool} {u v f q z : Int × Int} {a b : Int}
theorem mul_comm' : mul t u v = mul t v u := by
  obtain ⟨x, y⟩ := u
  obtain ⟨z, w⟩ := v
  cases t <;> (refine Prod.ext ?_ ?_ <;> simp [mul, sl] <;> grind)
theorem mul_assoc' : mul t (mul t u v) z = mul t u (mul t v z) := by
  obtain ⟨x, y⟩ := u
  obtain ⟨x1, y1⟩ := v
  obtain ⟨x2, y2⟩ := z
  cases t <;> (refine Prod.ext ?_ ?_ <;> simp [mul, sl] <;> grind)
def padd (u v : Int × Int) : Int × Int := (u.1 + v.1, u.2 + v.2)
theorem mul_add' : mul t (padd u v) z = padd (mul t u z) (mul t v z) := by
  obtain ⟨x, y⟩ := u
  obtain ⟨x1, y1⟩ := v
  obtain ⟨x2, y2⟩ := z
  cases t <;> (refine Prod.ext ?_ ?_ <;> simp [mul, sl, padd] <;> grind)
theorem nrm_mul : nrm t (mul t u v) = nrm t u * nrm t v := by
  obtain ⟨x, y⟩ := u
  obtain ⟨z, w⟩ := v
  cases t <;> (simp [mul, sl, nrm] <;> grind)
theorem flip_flip : flip t (flip t u) = u := by
  obtain ⟨x, y⟩ := u
  cases t <;> (refine Prod.ext ?_ ?_ <;> simp [flip, sl] <;> grind)
theorem mul_flip : mul t u (flip t u) = (nrm t u, 0) := by
  obtain ⟨x, y⟩ := u
  cases t <;> (refine Prod.ext ?_ ?_ <;> simp [flip, sl, mul, nrm] <;> grind)
theorem flip_mul : flip t (mul t u v) = mul t (flip t u) (flip t v) := by
  obtain ⟨x, y⟩ := u
  obtain ⟨z, w⟩ := v
  cases t <;> (refine Prod.ext ?_ ?_ <;> simp [flip, sl, mul] <;> grind)
def low (t : Bool) (u v : Int × Int) : Int × Int := mul t u (flip t v)
theorem low_of (h : mul t f v = u) : low t u v = (f.1 * nrm t v, f.2 * nrm t v) := by
  subst h
  obtain ⟨x, y⟩ := f
  obtain ⟨z, w⟩ := v
  cases t <;> (refine Prod.ext ?_ ?_ <;> simp [low, flip, sl, mul, nrm] <;> grind)
theorem of_low (hn : nrm t v ≠ 0) (h : low t u v = (f.1 * nrm t v, f.2 * nrm t v)) : mul t f v = u := by
  have e : mul t (low t u v) v = (u.1 * nrm t v, u.2 * nrm t v) := by
    obtain ⟨x, y⟩ := u
    obtain ⟨z, w⟩ := v
    cases t <;> (refine Prod.ext ?_ ?_ <;> simp [low, flip, sl, mul, nrm] <;> grind)
  have e2 : mul t (f.1 * nrm t v, f.2 * nrm t v) v = ((mul t f v).1 * nrm t v, (mul t f v).2 * nrm t v) := by
    generalize nrm t v = n
    obtain ⟨x, y⟩ := f
    obtain ⟨z, w⟩ := v
    cases t <;> (refine Prod.ext ?_ ?_ <;> simp [sl, mul] <;> grind)
  rw [h, e2] at e
  have e3 := congrArg Prod.fst e
  have e4 := congrArg Prod.snd e
  exact Prod.ext (Int.eq_of_mul_eq_mul_right hn e3) (Int.eq_of_mul_eq_mul_right hn e4)
def quo (t : Bool) (u v : Int × Int) : Option (Int × Int) := if (low t u v).1 % nrm t v = 0 ∧ (low t u v).2 % nrm t v = 0 then some ((low t u v).1 / nrm t v, (low t u v).2 / nrm t v) else none
theorem mul_div {r n : Int} (h : r % n = 0) : r = r / n * n := by
  have := Int.mul_ediv_add_emod r n
  rw [h, Int.add_zero, Int.mul_comm] at this
  exact this.symm
theorem quo_some (hn : 0 < nrm t v) (h : quo t u v = some q) : mul t q v = u := by
  unfold quo at h
  split at h
  case isTrue c =>
    cases h
    exact of_low (Int.ne_of_gt hn) (Prod.ext (mul_div c.1) (mul_div c.2))
  case isFalse c => cases h
theorem quo_of (hn : 0 < nrm t v) (h : mul t f v = u) : quo t u v = some f := by
  have e := low_of h
  have n0 := Int.ne_of_gt hn
  unfold quo
  rw [e]
  simp only
  rw [Int.mul_emod_left, Int.mul_emod_left, if_pos ⟨rfl, rfl⟩, Int.mul_ediv_cancel _ n0, Int.mul_ediv_cancel _ n0]
/-- only the first of the four places can be it -/
theorem quo_near (hn : 0 < nrm t v) {i j : Int} (hi : 0 ≤ i ∧ i < 2) (hj : 0 ≤ j ∧ j < 2) (h : mul t ((low t u v).1 / nrm t v + i, (low t u v).2 / nrm t v + j) v = u) : i = 0 ∧ j = 0 := by
  have e := low_of h
  have e1 := congrArg Prod.fst e
  have e2 := congrArg Prod.snd e
  simp only at e1 e2
  generalize nrm t v = n at *
  have d1 := Int.mul_ediv_cancel ((low t u v).1 / n + i) (Int.ne_of_gt hn)
  have d2 := Int.mul_ediv_cancel ((low t u v).2 / n + j) (Int.ne_of_gt hn)
  rw [← e1] at d1
  rw [← e2] at d2
  omega
theorem nrm_fin : ∀ (t : Bool) (a b : Fin 41), ¬ (a.val = 20 ∧ b.val = 20) → 0 < nrm t ((a.val : Int) - 20, (b.val : Int) - 20) := by decide +kernel
theorem nrm_pos (h : Le 20 v) (h0 : v ≠ (0, 0)) : 0 < nrm t v := by
  obtain ⟨x, y⟩ := v
  obtain ⟨h1, h2⟩ : x.natAbs ≤ 20 ∧ y.natAbs ≤ 20 := h
  have z := nrm_fin t ⟨(x + 20).toNat, by omega⟩ ⟨(y + 20).toNat, by omega⟩ (fun c => h0 (by have c1 : (x + 20).toNat = 20 := c.1; have c2 : (y + 20).toNat = 20 := c.2; exact Prod.ext (by show x = 0; omega) (by show y = 0; omega)))
  have e1 : (((x + 20).toNat : Nat) : Int) - 20 = x := by omega
  have e2 : (((y + 20).toNat : Nat) : Int) - 20 = y := by omega
  simp only [e1, e2] at z
  exact z
end
/-! ### promises -/
theorem natAbs_mul_le {x y : Int} {m n : Nat} (hx : x.natAbs ≤ m) (hy : y.natAbs ≤ n) : (x * y).natAbs ≤ m * n := by rw [Int.natAbs_mul]; exact Nat.mul_le_mul hx hy
theorem Le.mul {t : Bool} {u v : Int × Int} {m n : Nat} (hu : Le m u) (hv : Le n v) : Le (3 * (m * n)) (mul t u v) := by
  have a1 := natAbs_mul_le hu.1 hv.1
  have a2 := natAbs_mul_le hu.2 hv.2
  have a3 := natAbs_mul_le hu.1 hv.2
  have a4 := natAbs_mul_le hu.2 hv.1
  obtain ⟨x, y⟩ := u
  obtain ⟨z, w⟩ := v
  simp only at a1 a2 a3 a4
  generalize m * n = k at *
  generalize e1 : x * z = p1 at *
  generalize e2 : y * w = p2 at *
  generalize e3 : x * w = p3 at *
  generalize e4 : y * z = p4 at *
  cases t <;> (refine ⟨?_, ?_⟩ <;> simp [GL.mul, sl, e1, e2, e3, e4] <;> omega)
theorem Le.nrm {t : Bool} {u : Int × Int} {m : Nat} (hu : Le m u) : (nrm t u).natAbs ≤ 3 * (m * m) := by
  have a1 := natAbs_mul_le hu.1 hu.1
  have a2 := natAbs_mul_le hu.2 hu.2
  have a3 := natAbs_mul_le hu.1 hu.2
  obtain ⟨x, y⟩ := u
  simp only at a1 a2 a3
  generalize m * m = k at *
  generalize e1 : x * x = p1 at *
  generalize e2 : y * y = p2 at *
  generalize e3 : x * y = p3 at *
  cases t <;> (simp [GL.nrm, sl, e1, e2, e3] <;> omega)
def spMProd (K : PySem.W.Frag) (C : Addr) (U : Bool → Addr) : Sp := fun vs H Q _ => ∃ g t a b u v, vs = [.ref g, .ref a, .ref b] ∧ GridAt C U H g t ∧ PAt K H a u ∧ PAt K H b v ∧ ptOk u ∧ ptOk v ∧ ∀ p, H p = none → Q (.ref p) (upd H p (.tup [.int (mul t u v).1, .int (mul t u v).2]))
/-- what stands for a quotient -/
def QAt (K : PySem.W.Frag) (H : Hp) (r : Option (Int × Int)) (x : V) : Prop := match r with | none => x = .non | some q => ∃ p, x = .ref p ∧ PAt K H p q
theorem QAt.same {K : PySem.W.Frag} {H H' : Hp} {r : Option (Int × Int)} {x : V} (h : QAt K H r x) (s : Same H H') : QAt K H' r x := by
  cases r with
  | none => exact h
  | some q => obtain ⟨p, e, hp⟩ := h; exact ⟨p, e, hp.same s⟩
def spDiv (K : PySem.W.Frag) (C : Addr) (U : Bool → Addr) : Sp := fun vs H Q _ => ∃ g t a b u v, vs = [.ref g, .ref a, .ref b] ∧ GridAt C U H g t ∧ PAt K H a u ∧ PAt K H b v ∧ Le (10 ^ 6) u ∧ Le (10 ^ 3) v ∧ 0 < nrm t v ∧ ∀ x H', Same H H' → QAt K H' (quo t u v) x → Q x H'
def spPlus (K : PySem.W.Frag) : Sp := fun vs H Q _ => ∃ a b u v, vs = [.ref a, .ref b] ∧ PAt K H a u ∧ PAt K H b v ∧ ∀ p, H p = none → Q (.ref p) (upd H p (.tup [.int (padd u v).1, .int (padd u v).2]))
def spNormL (K : PySem.W.Frag) : Sp := fun vs H Q _ => ∃ q t a u, vs = [.ref q, .ref a] ∧ PlainAt H q t ∧ PAt K H a u ∧ Sm u ∧ Q (.int (nrm t u)) H
def spFlipL (K : PySem.W.Frag) : Sp := fun vs H Q _ => ∃ q t a u, vs = [.ref q, .ref a] ∧ PlainAt H q t ∧ PAt K H a u ∧ ∀ p, H p = none → Q (.ref p) (upd H p (.tup [.int (flip t u).1, .int (flip t u).2]))
def spPlace (K : PySem.W.Frag) : Sp := fun vs H Q _ => ∃ p, vs = [.ref p] ∧ Die H p ∧ ∀ a u H', ptOk u → PAt K H' a u → Got p H H' → Q (.ref a) H'
def spSmall (K : PySem.W.Frag) : Sp := fun vs H Q _ => ∃ p, vs = [.ref p] ∧ Die H p ∧ ∀ a u H', Le 20 u → PAt K H' a u → Got p H H' → Q (.ref a) H'
def spParts (K : PySem.W.Frag) (C : Addr) (U : Bool → Addr) : Sp := fun vs H Q _ => ∃ q g t a b u v, vs = [.ref q, .ref g, .ref a, .ref b] ∧ PlainAt H q t ∧ GridAt C U H g t ∧ PAt K H a u ∧ PAt K H b v ∧ ptOk u ∧ ptOk v ∧ ∀ H', Same H H' → Q (.bl true) H'
/-! ### the list that is shown -/
def bigD (t : Bool) (u v : Int × Int) : List PyData := [ptD (mul t u v), ptD (mul t u v), .int (nrm t u), ptD (flip t u)]
theorem ptOk_le {u : Int × Int} (h : ptOk u) : Le (10 ^ 400) u := by
  obtain ⟨h1, h2⟩ := h
  rw [int_short] at h1 h2
  exact ⟨Nat.le_of_lt (of_decide_eq_true h1), Nat.le_of_lt (of_decide_eq_true h2)⟩
theorem big_of {x : Int} (h : x.natAbs ≤ 3 * (10 ^ 400 * 10 ^ 400)) : Big x := Nat.lt_of_le_of_lt h (by decide +kernel)
theorem big_pt {w : Int × Int} (h : Le (3 * (10 ^ 400 * 10 ^ 400)) w) : BigItem (ptD w) := .tup (by
  intro d hd
  simp only [List.mem_cons, List.not_mem_nil, or_false] at hd
  rcases hd with rfl | rfl
  · exact ⟨_, rfl, big_of h.1⟩
  · exact ⟨_, rfl, big_of h.2⟩)
theorem big_short {x : Int} (h : Big x) : (PyData.shown (.int x)).length ≤ 4301 := by
  have e := int_text_length_le10 (k := 4300) (by decide) h
  show (Str.ofString (toString x)).length ≤ 4301
  rw [PySem.ofString_length]
  exact e
theorem bigD_ok {t : Bool} {u v : Int × Int} (ou : ptOk u) (ov : ptOk v) : (∀ d ∈ bigD t u v, BigItem d) ∧ bigD t u v ≠ [] ∧ 1 < (PyData.list (bigD t u v)).depth ∧ (PyData.shown (.list (bigD t u v))).length ≤ sizeLine := by
  have lu := ptOk_le ou
  have lv := ptOk_le ov
  have lm : Le (3 * (10 ^ 400 * 10 ^ 400)) (mul t u v) := lu.mul lv
  have lf : Le (3 * (10 ^ 400 * 10 ^ 400)) (flip t u) := (lu.flip).mono (by decide +kernel)
  have ln : (nrm t u).natAbs ≤ 3 * (10 ^ 400 * 10 ^ 400) := lu.nrm
  refine ⟨fun d hd => ?_, (fun z => by cases z), ?_, ?_⟩
  · simp only [bigD, List.mem_cons, List.not_mem_nil, or_false] at hd
    rcases hd with rfl | rfl | rfl | rfl
    · exact big_pt lm
    · exact big_pt lm
    · exact .int (big_of ln)
    · exact big_pt lf
  · simp [bigD, ptD, PyData.depth, PyData.depthAll]
  · have z := PyData.shown_le_bulk 4301 (by decide) (.list (bigD t u v)) (by
      simp only [bigD, ptD, PyData.leavesShort, PyData.leavesShortAll, Bool.and_eq_true, Bool.and_true, decide_eq_true_eq]
      exact ⟨⟨big_short (big_of lm.1), big_short (big_of lm.2)⟩, ⟨big_short (big_of lm.1), big_short (big_of lm.2)⟩, big_short (big_of ln), big_short (big_of lf.1), big_short (big_of lf.2)⟩)
    refine Nat.le_trans z ?_
    simp [bigD, ptD, PyData.bulk, PyData.bulkAll]
    decide
theorem max_small {x y : Int} (h : ¬ (decide ((10 : Int) ^ (60 : Int).toNat < if (if y < 0 then -y else y) > (if x < 0 then -x else x) then (if y < 0 then -y else y) else (if x < 0 then -x else x)) = true)) : x.natAbs ≤ 10 ^ 60 ∧ y.natAbs ≤ 10 ^ 60 := by
  have h2 := of_decide_eq_false (Bool.not_eq_true _ ▸ h)
  have e : (10 : Int) ^ (60 : Int).toNat = ((10 ^ 60 : Nat) : Int) := by decide +kernel
  rw [e] at h2
  generalize (10 ^ 60 : Nat) = N at *
  omega
theorem Le.ok60 {u : Int × Int} {n : Nat} (h : Le n u) (hn : n ≤ 10 ^ 399) : ptOk u := by
  have b : (10 ^ 399 : Nat) < 10 ^ 400 := by decide +kernel
  exact ⟨by rw [int_short]; exact decide_eq_true (Nat.lt_of_le_of_lt (Nat.le_trans h.1 hn) b), by rw [int_short]; exact decide_eq_true (Nat.lt_of_le_of_lt (Nat.le_trans h.2 hn) b)⟩
def qD : Option (Int × Int) → PyData | none => .none | some q => ptD q
theorem qD_at {K : PySem.W.Frag} {H : Hp} {r : Option (Int × Int)} {x : V} (h : QAt K H r x) : Dp K H x (qD r) := by
  cases r with
  | none => rw [show x = V.non from h]; exact .non
  | some q => obtain ⟨p, rfl, hp⟩ := h; exact ptD_at hp
theorem int_shown6 {x : Int} (h : x.natAbs ≤ 10 ^ 6) : (PyData.shown (.int x)).length ≤ 13 := by
  have e := int_text_length_le10 (a := x) (k := 7) (by decide) (Nat.lt_of_le_of_lt h (by decide))
  show (Str.ofString (toString x)).length ≤ 13
  rw [PySem.ofString_length]
  exact Nat.le_trans e (by decide)
theorem qD_ok {r : Option (Int × Int)} (h : ∀ q, r = some q → Le (10 ^ 6) q) : (qD r).showable = true ∧ (qD r).hasDict = false ∧ (qD r).depth ≤ 20 ∧ (qD r).shown.length ≤ sizeLine := by
  cases r with
  | none => exact ⟨by decide +kernel, by decide +kernel, by decide +kernel, by decide +kernel⟩
  | some u =>
    have h := h u rfl
    have sh : ∀ {x : Int}, x.natAbs ≤ 10 ^ 6 → x.natAbs.log2 < 1920 := fun {x} h => Nat.lt_of_lt_of_le (PySem.Flt.log2_lt_of (show 0 < 20 by decide) (Nat.lt_of_le_of_lt h (show 10 ^ 6 < 2 ^ 20 by decide))) (by decide)
    have z := PyData.shown_le_bulk 13 (by decide) (ptD u) (by
      simp only [ptD, PyData.leavesShort, PyData.leavesShortAll, Bool.and_eq_true, Bool.and_true, decide_eq_true_eq]
      exact ⟨int_shown6 h.1, int_shown6 h.2⟩)
    refine ⟨?_, by simp [qD, ptD, PyData.hasDict, PyData.hasDictAll], by simp [qD, ptD, PyData.depth, PyData.depthAll], Nat.le_trans z (by simp [ptD, PyData.bulk, PyData.bulkAll]; decide)⟩
    simp only [qD, ptD, PyData.showable, PyData.showableAll, Bool.and_eq_true, Bool.and_true, decide_eq_true_eq]
    exact ⟨sh h.1, sh h.2⟩
def spQuots (C : Addr) (U : Bool → Addr) : Sp := fun vs H Q _ => ∃ p q g t, vs = [.ref p, .ref q, .ref g] ∧ Die H p ∧ PlainAt H q t ∧ GridAt C U H g t ∧ ∀ H', Got p H H' → Q (.bl true) H'
theorem quo_cases {t : Bool} {u v : Int × Int} : quo t u v = none ∨ quo t u v = some ((low t u v).1 / nrm t v, (low t u v).2 / nrm t v) := by
  unfold quo
  split
  · exact .inr rfl
  · exact .inl rfl
theorem div_small {a b : Int} {n : Nat} (h : a.natAbs ≤ n) : (a / b).natAbs ≤ n := Nat.le_trans (Int.natAbs_ediv_le_natAbs a b) h
end GL
/-! comparing instances of one class with an own == -/
namespace GL
open PySem PySem.Spec PyProof.Rows L2
section
variable {X : Cx} {CX : CXT} {k : Nat} {C : Addr} {sp : Sp} {E : XK}
theorem op_eqM (h : HasM X.prog X.w X.K X.mg X.base CX C "__eq__" k ["self", "other"] sp) (g : Gd X.A) (hr : Room k X.A) (hx : Passes CX X E) :
    OpR X (compareOp .Eq) (fun x y H Q => ∃ a b dx dy fs gs, x = .ref a ∧ y = .ref b ∧ H a = some (.ins C dx fs) ∧ H b = some (.ins C dy gs) ∧ sp [.ref a, .ref b] H (fun v H' => ∃ r, v = .bl r ∧ Q (.bl r) H') E) := by
  intro pins s σ H x y v u Q I rx ry hq
  obtain ⟨a, b, dx, dy, fs, gs, rfl, rfl, ha, hb, q⟩ := hq
  cases (show v = Value.ref a from rx)
  cases (show u = Value.ref b from ry)
  obtain ⟨f, fd, F, M, bi⟩ := h.ex
  obtain ⟨_, O1, _⟩ := ins_get I.hok ha
  obtain ⟨_, O2, _⟩ := ins_get I.hok hb
  obtain ⟨od, J, _⟩ := O1.look
  obtain ⟨od', J', _⟩ := O2.look
  obtain ⟨m', fr⟩ := I.fr
  have b1 := bi s [.ref a, .ref b] I.kIn rfl
  rw [List.append_nil] at b1
  show wpAny (model X.prog X.w) X.A (richCompare .Eq (.ref a) (.ref b)) (EP X pins σ Q) X.xe s
  refine PySem.W.cmp_K (op := .Eq) (tb := .ref C) (by have := hr.un; omega) fr I.mod.kin J J'.type (by simp [PySem.W.notFirst]) M.at_ M.fn ?_
  apply wpAny_call
  refine codeAny_mono (F.go g hr I.env0 b1 (vs := [.ref a, .ref b]) (.cons rfl (.cons rfl .nil)) q) (fun res s' z => ?_)
  match res, z with
  | .error _, z => exact hx pins σ H s _ s' I z
  | .ok (.ret _), z =>
    obtain ⟨v, H', I', rv, r, rfl, q2⟩ := I.after z
    cases (show _ = Value.bool r from rv)
    exact ⟨.bl r, H', I', rfl, q2⟩
end
end GL
/-! comparing an instance that has an own == with anything; str of an instance -/
namespace GL
open PySem PySem.Spec PyProof.Rows L2
section
variable {prog : Program} {w : World} {A : Around} {E : Value → Shared → Prop} {s : Shared} {K : PySem.W.Frag} {x C L f : Addr} {h₀ : Heap} {m : Str → Option Value} {ox : Obj} {od : Option Obj} {b tb : Value}
open PySem.W PySem.Calls Builtin in
theorem ne_own {Q : Value → Shared → Prop} (hu : A.units < cLine) (hu1 : A.in1.units < cLine) (F : Fr h₀ L s.heap m) (X₀ : K.In h₀) (I : InstAt s.heap x ox C od) (hb : Looks (model prog w) s.heap (typeOf b) tb) (hn : notFirst K C tb = true)
    (hs : findIn K (.ref C) "__eq__" = some (some (.ref f))) (hf : isFn K (.ref f) = true) (hne : findIn K (.ref C) "__ne__" = some (some (.builtin "object.__ne__"))) (hob : subIn K (.ref C) (.type "object") = some true)
    (h : wpAny (model prog w) A.in1 (call (.ref f) [.ref x, b]) (fun v s' => ∃ r, v = .bool r ∧ Q (.bool (!r)) s') E s) : wpAny (model prog w) A (richCompare .NotEq (.ref x) b) Q E s := by
  have X := X₀.keeps F.keep
  have isob : Looks (model prog w) s.heap (isInstance (.ref x) (.type "object")) true := I.type.andThen (looks_subIn X hob)
  have run : wpAny (model prog w) A (call (.builtin "object.__ne__") ([.ref x] ++ [b])) (fun v s' => ∃ r, v = .bool r ∧ Q (.bool r) s') E s := by
    refine wpAny_call (codeAny_call_builtin (by decide +kernel) PySem.F.cmpEntry_ne (check_slot PySem.F.cmpKind_ne PySem.F.cmpSplit_ne isob (PySem.F.cmpArgs_ne _ _) ?_))
    unfold Builtin.«object.__ne__»
    refine wpAny_bind (m := slotArgs "__ne__" 1 _) (wpAny_pure ?_)
    refine wpAny_bind (wpAny_cRoomFor hu1 ?_)
    refine wpAny_bind (m := callSpecialIfBound? (.ref x) (Str.ofString "__eq__") _) (ifBound_K X I hs hf (wpAny_mono h (fun v s' hv => ?_) fun _ _ e => e))
    obtain ⟨r, rfl, q⟩ := hv
    refine wpAny_bind (m := truthy (.bool r)) (wpAny_pure ?_)
    exact wpAny_pure ⟨!r, rfl, q⟩
  have one : wpAny (model prog w) A (tryCompare (.ref x) "__ne__" b) (fun r s' => ∃ v, r = some (.bool v) ∧ Q (.bool v) s') E s := by
    unfold tryCompare
    refine wpAny_bind ?_
    simp only [callSpecialIfBound?, bindSpecialIfBound?]
    refine wpAny_holding (wpAny_bind (wpAny_bind (wpAny_bind (I.type.here ((looks_findIn X hne).here ?_)))))
    have bd : bindSpecial (.builtin "object.__ne__") (.ref x) = pure (.builtin "object.__ne__", [.ref x]) := PySem.F.cmp_object.ne.bind _
    refine wpAny_bind (wpAny_askSetting (wpAny_ite ?_))
    have fin : wpAny (model prog w) A (call (.builtin "object.__ne__") ([.ref x] ++ [b]) >>= fun v => pure (some v)) (fun r s' => ∃ v, r = some (.bool v) ∧ Q (.bool v) s') E s :=
      wpAny_bind (wpAny_mono run (fun v s' h' => by obtain ⟨r, rfl, q⟩ := h'; exact wpAny_pure ⟨r, rfl, q⟩) fun _ _ h' => h')
    have fin2 : wpAny (model prog w) A (call (.builtin "object.__ne__") ([.ref x] ++ [b]) >>= fun v => pure (some v)) (fun r s' => wpAny (model prog w) A (match r with | some .notImplemented | none => pure none | some v => pure (some v)) (fun r s' => ∃ v, r = some (.bool v) ∧ Q (.bool v) s') E s') E s :=
      wpAny_mono fin (fun r s' h' => by obtain ⟨v, rfl, q⟩ := h'; exact wpAny_pure ⟨v, rfl, q⟩) fun _ _ e => e
    simp only [bd]
    split
    · exact wpAny_bind (wpAny_pure (wpAny_pure fin2))
    · exact wpAny_tryCatch (wpAny_bind (wpAny_pure (wpAny_pure fin2)))
  unfold richCompare
  simp only [oneThing_ref]
  refine wpAny_holding (wpAny_bind (wpAny_cRoomFor hu ?_))
  refine wpAny_bind (I.type.here (wpAny_bind (hb.here ?_)))
  have tail : wpAny (model prog w) A (do
      if let some v ← tryCompare (.ref x) "__ne__" b then return v
      if let some v ← tryCompare b "__ne__" (.ref x) then return v
      rule "compare.ne-identity"; return .bool (!(← isSame (.ref x) b))) Q E s := by
    refine wpAny_bind (wpAny_mono one (fun r s' z => ?_) fun _ _ e => e)
    obtain ⟨v, rfl, q⟩ := z
    exact wpAny_pure q
  split
  · rename_i q
    have e : subIn K tb (.ref C) = some false := by
      rcases Bool.or_eq_true_iff.mp hn with e | e
      · rw [beq_iff_eq.mp e] at q; simp at q
      · exact beq_iff_eq.mp e
    refine wpAny_bind ((looks_subIn X e).here ?_)
    exact tail
  · exact tail
end

section
variable {X : Cx} {CX : CXT} {k : Nat} {C : Addr} {sp : Sp} {E : XK}
/-- what of a class stands in the text, for its == and != -/
structure EqC (K : PySem.W.Frag) (C : Addr) : Prop where
  ne : PySem.W.findIn K (.ref C) "__ne__" = some (some (.builtin "object.__ne__"))
  ob : PySem.W.subIn K (.ref C) (.type "object") = some true
/-- x is an instance of C, y is of a type that is no subclass of C -/
def rEqA (K : PySem.W.Frag) (C : Addr) (sp : Sp) (E : XK) (neg : Bool) : R2 := fun x y H Q => ∃ a dx fs t, x = .ref a ∧ H a = some (.ins C dx fs) ∧ TyX K H y t ∧ PySem.W.notFirst K C t = true ∧
  sp [.ref a, y] H (fun v H' => ∃ r, v = .bl r ∧ Q (.bl (neg != r)) H') E
theorem op_eqA (h : HasM X.prog X.w X.K X.mg X.base CX C "__eq__" k ["self", "other"] sp) (g : Gd X.A) (hr : Room k X.A) (hx : Passes CX X E) :
    OpR X (compareOp .Eq) (rEqA X.K C sp E false) := by
  intro pins s σ H x y v u Q I rx ry hq
  obtain ⟨a, dx, fs, t, rfl, ha, ty, nf, q⟩ := hq
  cases (show v = Value.ref a from rx)
  obtain ⟨f, fd, F, M, bi⟩ := h.ex
  obtain ⟨_, O1, _⟩ := ins_get I.hok ha
  obtain ⟨od, J, _⟩ := O1.look
  obtain ⟨Z, KX, z, _⟩ := kit_of I ry ty
  obtain ⟨m', fr⟩ := I.fr
  have b1 := bi s [.ref a, u] I.kIn rfl
  rw [List.append_nil] at b1
  show wpAny (model X.prog X.w) X.A (richCompare .Eq (.ref a) u) (EP X pins σ Q) X.xe s
  refine PySem.W.cmp_K (op := .Eq) (tb := t) (by have := hr.un; omega) fr I.mod.kin J (KX.ty _ _ I.kIn z) nf M.at_ M.fn ?_
  apply wpAny_call
  refine codeAny_mono (F.go g hr I.env0 b1 (vs := [.ref a, y]) (.cons rfl (.cons ry .nil)) q) (fun res s' z => ?_)
  match res, z with
  | .error _, z => exact hx pins σ H s _ s' I z
  | .ok (.ret _), z =>
    obtain ⟨v, H', I', rv, r, rfl, q2⟩ := I.after z
    cases (show _ = Value.bool r from rv)
    exact ⟨.bl r, H', I', rfl, by simpa using q2⟩
theorem op_neA (h : HasM X.prog X.w X.K X.mg X.base CX C "__eq__" k ["self", "other"] sp) (e : EqC X.K C) (g : Gd X.A) (hr : Room (k + 1) X.A) (hx : Passes CX X E) :
    OpR X (compareOp .NotEq) (rEqA X.K C sp E true) := by
  intro pins s σ H x y v u Q I rx ry hq
  obtain ⟨a, dx, fs, t, rfl, ha, ty, nf, q⟩ := hq
  cases (show v = Value.ref a from rx)
  obtain ⟨f, fd, F, M, bi⟩ := h.ex
  obtain ⟨_, O1, _⟩ := ins_get I.hok ha
  obtain ⟨od, J, _⟩ := O1.look
  obtain ⟨Z, KX, z, _⟩ := kit_of I ry ty
  obtain ⟨m', fr⟩ := I.fr
  have b1 := bi s [.ref a, u] I.kIn rfl
  rw [List.append_nil] at b1
  show wpAny (model X.prog X.w) X.A (richCompare .NotEq (.ref a) u) (EP X pins σ Q) X.xe s
  refine ne_own (tb := t) (by have := hr.un; omega) (by have := hr.in1.un; omega) fr I.mod.kin J (KX.ty _ _ I.kIn z) nf M.at_ M.fn e.ne e.ob ?_
  apply wpAny_call
  refine codeAny_mono (F.go (A := X.A.in1) g hr.in1 I.env0.in1 b1 (vs := [.ref a, y]) (.cons rfl (.cons ry .nil)) q) (fun res s' z => ?_)
  match res, z with
  | .error _, z => exact hx pins σ H s _ s' I z
  | .ok (.ret _), z =>
    obtain ⟨v, H', I', rv, r, rfl, q2⟩ := I.after z
    cases (show _ = Value.bool r from rv)
    exact ⟨r, rfl, .bl (!r), H', I', rfl, by simpa using q2⟩
/-- str of an instance whose class has its own __str__ -/
def rStrM (C : Addr) (sp : Sp) (E : XK) : List V → Hp → VK → Prop := fun xs H Q => ∃ a dx fs, xs = [.ref a] ∧ H a = some (.ins C dx fs) ∧ sp [.ref a] H (fun v H' => ∃ y, v = .str y ∧ Q (.str y) H') E
theorem call_strM (h : HasM X.prog X.w X.K X.mg X.base CX C "__str__" k ["self"] sp) (g : Gd X.A) (hr : Room (k + 2) X.A) (hx : Passes CX X E) :
    CallR X (.type "str") (rStrM C sp E) := by
  intro pins s σ H xs us Q I r q
  obtain ⟨a, dx, fs, rfl, ea, q1⟩ := q
  obtain ⟨f, fd, F, M, b⟩ := h.ex
  obtain ⟨u, rfl, ru⟩ := vals1 r
  cases (show u = Value.ref a from ru)
  obtain ⟨mA, O, _⟩ := ins_get I.hok ea
  obtain ⟨od, J, _⟩ := O.look
  have b1 := b s [.ref a] I.kIn rfl
  rw [List.append_nil] at b1
  refine PySem.W.kso_call (by have := hr.in1.in1.un; omega) I.kIn J M.at_ M.fn ?_
  apply wpAny_call
  refine codeAny_mono (F.go (A := X.A.in1.in1) g hr.in1.in1 I.env0.in1.in1 b1 (vs := [.ref a]) (.cons rfl .nil) q1) (fun res s' z => ?_)
  match res, z with
  | .error _, z => exact hx pins σ H s _ s' I z
  | .ok (.ret _), z =>
    obtain ⟨v, H', I', rv, y, rfl, q2⟩ := I.after z
    obtain ⟨t, rfl⟩ := rv
    exact ⟨.str y, H', I', ⟨_, rfl⟩, q2⟩
end
end GL
/-! list of an instance whose __iter__ hands out the iterator of a tuple -/
namespace GL
open PySem PySem.Spec PyProof.Rows L2
/-- at it the iterator of the tuple at t, with i things taken -/
def ItT (t it : Addr) (i : Nat) : HO := .ext fun h => h.IsTupleIter it t i
def ItX (it : Addr) : HO := .ext fun h => ∃ o, h.get? it = some o
section
variable {X : Cx} {pins : List (Addr × Obj)} {σ : L2.St} {H : Hp} {s : Shared} {t it : Addr} {i : Nat}
theorem itT_ok {P : Program} {w : World} {H : Hp} {h : Heap} (e : h.IsTupleIter it t i) : ObjOk P w H h it (ItT t it i) := ⟨e, let ⟨o, ho, _⟩ := e; ⟨o, ho⟩, fun h1 h2 q k => Heap.IsTupleIter.at q k⟩
theorem itX_ok {P : Program} {w : World} {H : Hp} {h : Heap} {o : Obj} (e : h.get? it = some o) : ObjOk P w H h it (ItX it) := ⟨⟨o, e⟩, ⟨o, e⟩, fun h1 h2 ⟨o, q⟩ k => ⟨o, k _ q⟩⟩
theorem itT_get (I : Inv X pins σ H s) (e : H it = some (ItT t it i)) : s.heap.IsTupleIter it t i := (I.hok it _ e).1
/-- iter(t), t a tuple -/
def rIterT (K : PySem.W.Frag) : List V → Hp → VK → Prop := fun xs H Q => ∃ (l : Addr) (zs : List V), xs = [.ref l] ∧ SqT K H l zs ∧ ∀ it, H it = none → Q (.ref it) (upd H it (ItT l it 0))
theorem call_iterT : CallR X (.builtin "iter") (rIterT X.K) := by
  intro pins s σ H xs us Q I r h
  obtain ⟨l, zs, rfl, hq, q⟩ := h
  obtain ⟨u, rfl, ru⟩ := vals1 r
  cases (show u = Value.ref l from ru)
  obtain ⟨its, rv, tp, hz⟩ := I.tuple hq
  refine Calls.call_function_entry (by decide +kernel) (by decide +kernel) PySem.W.kdk_entry_iter (PySem.W.kdk_args_iter _) ?_
  unfold Builtin.«iter»
  refine wpAny_bind (m := someArgs "iter" 1 2 _) (wpAny_of_eq (a := [Value.ref l]) (by first | rfl | kernel_rfl!) ?_)
  show wpAny _ _ (pyIter (.ref l) >>= _) _ _ _
  refine wpAny_bind (wpAny_pyIter_tuple tp ?_)
  refine wpAny_pure ⟨_, rfl, ?_⟩
  exact ⟨.ref s.heap.objs.size, _, I.laid (t' := s.toks) (fun b u e => Heap.get?_push_of_some _ e) (Nat.le_refl _) (itT_ok ⟨_, Heap.get?_push_size _ rfl, rfl, rfl⟩), rfl, q _ (I.hok.fresh (Nat.le_refl _))⟩
end
section
variable {prog : Program} {w : World} {A : Around} {E : Value → Shared → Prop} {s : Shared}
/-- the end of a tuple's iterator, with what stands at it then -/
theorem tup_end {it t : Addr} {i : Nat} {items} {Q : Option Value → Shared → Prop} (hh : A.handled = none)
    (hit : s.heap.IsTupleIter it t i) (ht : s.heap.IsTuple t items) (hx : items[i]? = none)
    (hQ : ∀ h', Heap.ExtBut it s.heap h' → (∃ o, h'.get? it = some o) → Q none { s with heap := h' }) : wpAny (model prog w) A (pyNext (.ref it)) Q E s := by
  obtain ⟨o, ho, hc, hd⟩ := id hit
  obtain ⟨ol, hol, _, nl, hdl⟩ := ht
  unfold pyNext
  refine wpAny_bind (wpAny_attempt (wpAny_callSpecial?_slot (name := Str.ofString "__next__") hit.typeIs F.slot_tuple_iterator_next
    (wpAny_call_entry F.slot_tuple_iterator_next hit.typeIs F.entry_tuple_iterator_next ?_ (F.args_tuple_iterator_next_1 _))))
  show wpAny _ _ (field (.ref it) 0 >>= _) _ _ s
  refine wpAny_bind (wpAny_field ho hd (x := .ref t) rfl ?_)
  show wpAny _ _ (if (Value.ref t == Value.none) = true then _ else _) _ _ s
  rw [if_neg (show ¬ ((Value.ref t == Value.none) = true) from Bool.false_ne_true)]
  show wpAny _ _ (field (.ref it) 1 >>= _) _ _ s
  refine wpAny_bind (wpAny_field ho hd (x := .int i 0) rfl ?_)
  show wpAny _ _ (seqItems? (.ref t) >>= _) _ _ s
  refine wpAny_bind (wpAny_seqItems hol hdl ?_)
  simp only [Int.toNat_natCast, hx]
  refine wpAny_bind (wpAny_rule (wpAny_bind (wpAny_setField ho hd (by simp) ?_)))
  show wpAny _ _ (newExc (.type "StopIteration") [] >>= _) _ _ _
  refine wpAny_bind ?_
  simp only [newExc, newTuple]
  refine wpAny_bind (wpAny_newObj_type ?_ (by size_fits))
  refine wpAny_bind (m := firstArgMember _ _) (wpAny_of_eq (a := Value.none) (by first | rfl | (simp only [firstArgMember]; rfl)) ?_)
  refine wpAny_newObj_type ?_ (by size_fits)
  simp only [raiseNew]
  refine wpAny_bind (wpAny_handled ?_)
  first | rw [show A.in1.handled = none from hh] | rw [hh]
  refine wpAny_bind (wpAny_pure (wpAny_throw ?_))
  refine wpAny_bind (wpAny_isInstance (T := "StopIteration") (b := true) ⟨_, Heap.get?_push_size _ rfl, rfl⟩ isSubtype_stop ?_)
  exact wpAny_pure (hQ _ (((Heap.SameBut.update ..).extBut.push _).push _) ⟨_, Heap.get?_push_of_some _ (Heap.get?_push_of_some _ (Heap.get?_update_self _ ho (Obj.isFreed_of_fields (Obj.data_mapFields hd _))))⟩)
end
section
variable {X : Cx} {pins : List (Addr × Obj)} {σ : L2.St} {H1 : Hp} {q it t a : Addr} {zs : List V} {A1 : Around}
/-- the walk that fills the list at q out of the iterator at it -/
theorem it_loop {Rs : Result → Shared → Prop} (hh : A1.in1.handled = none) (hz : zs.length ≤ 1000) (qi : q ≠ it) (st : ∀ H : Hp, (∀ b o, b ≠ q → b ≠ it → H1 b = some o → H b = some o) → SqT X.K H t zs)
    (hdone : ∀ H s, Inv X pins σ H s → (∀ b o, b ≠ q → b ≠ it → H1 b = some o → H b = some o) → H q = some (.lst zs) → Rs (.ok (.ret .none)) s) :
    ∀ (k i : Nat) (H : Hp) (s : Shared), zs.length - i = k → i ≤ zs.length → Inv X pins σ H s → (∀ b o, b ≠ q → b ≠ it → H1 b = some o → H b = some o) → H it = some (ItT t it i) → H q = some (.lst (zs.take i)) →
      codeAny (model X.prog X.w) A1 (.builtin "list.extend.loop" ⟨[.ref q, .ref it, .none], []⟩) Rs s := by
  intro k
  induction k with
  | zero =>
    intro i H s hk hi I keep hit hq
    have ei : i = zs.length := by omega
    subst ei
    refine codeAny_builtin PySem.F.entry_extend_loop ?_
    rw [Around.under_plainId PySem.F.plain_extend_loop _]
    show wpAny _ A1.in1 (pyNext (.ref it) >>= _) _ _ s
    obtain ⟨its, rv, tp, _⟩ := I.tuple (st H keep)
    refine wpAny_bind (tup_end hh (itT_get I hit) tp (by rw [List.getElem?_toArray]; exact rv.none_of (List.getElem?_eq_none (Nat.le_refl _))) (fun h' ex ⟨o, eo⟩ => ?_))
    have I2 : Inv X pins σ (upd H it (ItX it)) { s with heap := h' } := I.write (x := it) (e := it) (t' := s.toks) (by rw [hit]; exact True.intro) (.inl rfl) (fun b o nb z => ex b o nb z) ⟨_, eo⟩ (itX_ok eo)
    refine wpAny_pure (hdone _ _ I2 (fun b o nq ni z => by rw [upd_ne ni]; exact keep b o nq ni z) ?_)
    rw [upd_ne qi, hq, List.take_length]
  | succ k ih =>
    intro i H s hk hi I keep hit hq
    refine codeAny_builtin PySem.F.entry_extend_loop ?_
    rw [Around.under_plainId PySem.F.plain_extend_loop _]
    show wpAny _ A1.in1 (pyNext (.ref it) >>= _) _ _ s
    obtain ⟨its, rv, tp, _⟩ := I.tuple (st H keep)
    have hlt : i < zs.length := by omega
    obtain ⟨u, hu, ru⟩ := rv.get (List.getElem?_eq_getElem hlt)
    refine wpAny_bind (wpAny_pyNext_tuple_item (itT_get I hit) tp (by rw [List.getElem?_toArray]; exact hu) (fun h' e' sb => ?_))
    have I2 : Inv X pins σ (upd H it (ItT t it (i + 1))) { s with heap := h' } := I.write (x := it) (e := it) (t' := s.toks) (by rw [hit]; exact True.intro) (.inl rfl) (fun b o nb z => (sb.2 b nb).trans z) (let ⟨o, ho, _⟩ := e'; ⟨o, ho⟩) (itT_ok e')
    have hq2 : upd H it (ItT t it (i + 1)) q = some (.lst (zs.take i)) := by rw [upd_ne qi]; exact hq
    show wpAny _ A1.in1 (updateSeq q (·.push u) >>= _) _ _ _
    obtain ⟨z, its', k', r2, hl, e⟩ := I2.lstM hq2
    have hsz : its'.length ≤ 1000 := by rw [← hl, List.length_take]; omega
    have big : 1000 < sizeLine := by rw [sizeLine_eq]; decide
    refine wpAny_bind (wpAny_updateSeq e rfl (wpAny_pure ⟨plainId_quiet PySem.F.plain_extend_loop _, ?_⟩) (by rw [List.size_toArray]; omega) (by show (its'.toArray.push u).size ≤ sizeLine + 1; rw [Array.size_push, List.size_toArray]; omega))
    have I3 := I2.lset (its' := its' ++ [u]) (ys := zs.take i ++ [zs[i]]) (f := (·.push u)) (t' := s.toks) hq2 e (by simp) (r2.append (.cons ru .nil)) (by rw [List.length_append, List.length_singleton, List.length_take]; omega)
    refine ih (i + 1) _ _ (by omega) (by omega) I3 (fun b o nq ni z => by rw [upd_ne nq, upd_ne ni]; exact keep b o nq ni z) (by rw [upd_ne qi.symm, upd_same]) (by rw [upd_same, List.take_add_one, List.getElem?_eq_getElem hlt]; rfl)
end

section
variable {X : Cx} {CX CX' : CXT} {k k' : Nat} {C : Addr} {sp spL : Sp} {E : XK}
/-- list(o): __iter__ hands out the iterator of a tuple, __len__ says how long it is -/
def rListIt (K : PySem.W.Frag) (C : Addr) (sp spL : Sp) (E : XK) : List V → Hp → VK → Prop := fun xs H Q => ∃ a dx fs, xs = [.ref a] ∧ H a = some (.ins C dx fs) ∧
  ∀ q, H q = none → sp [.ref a] (upd H q (.lst [])) (fun v H1 => ∃ it t zs, v = .ref it ∧ H1 it = some (ItT t it 0) ∧ H1 q = some (.lst []) ∧ H1 a = some (.ins C dx fs) ∧ zs.length ≤ 1000 ∧
    (∀ H : Hp, (∀ b o, b ≠ q → b ≠ it → H1 b = some o → H b = some o) → SqT K H t zs) ∧ spL [.ref a] H1 (fun v H2 => v = .int zs.length ∧ H2 = H1) E ∧
    ∀ H2, (∀ b o, b ≠ q → b ≠ it → H1 b = some o → H2 b = some o) → H2 q = some (.lst zs) → Q (.ref q) H2) E
theorem call_listIt (h : HasM X.prog X.w X.K X.mg X.base CX C "__iter__" k ["self"] sp) (hl : HasM X.prog X.w X.K X.mg X.base CX0 C "__len__" k ["self"] spL) (g : Gd X.A) (hr : Room (k + 3) X.A) (hx : Passes CX X E) :
    CallR X (.type "list") (rListIt X.K C sp spL E) := by
  intro pins s σ H xs us Q I r asked
  obtain ⟨a, dx, fs, rfl, ha, hq⟩ := asked
  obtain ⟨f, fd, F, M, bi⟩ := h.ex
  obtain ⟨fl, fdl, FL, ML, bl⟩ := hl.ex
  obtain ⟨u, rfl, ru⟩ := vals1 r
  cases (show u = Value.ref a from ru)
  refine callType_codes (Q₁ := fun obj s₁ => obj = .ref s.heap.objs.size ∧ s₁ = { s with heap := s.heap.push { cls := .type "list", data := .seq #[] } }) PySem.F.called_list (PySem.F.typeCall_list_1 _) PySem.F.entry_list_init
    (code_list_new _ ⟨rfl, rfl⟩) fun obj s₁ h₁ => ?_
  obtain ⟨rfl, rfl⟩ := h₁
  have hS : (s.heap.push { cls := .type "list", data := .seq #[] }).get? s.heap.objs.size = some { cls := .type "list", data := .seq #[] } := Heap.get?_push_size _ rfl
  refine ⟨⟨_, hS, rfl⟩, PySem.F.args_list_init_2 _ _, ?_⟩
  have fr : H s.heap.objs.size = none := I.hok.fresh (Nat.le_refl _)
  have asked := hq _ fr
  generalize hqq : s.heap.objs.size = q at *
  have I1 : Inv X pins σ (upd H q (.lst [])) { s with heap := s.heap.push { cls := .type "list", data := .seq #[] } } := by
    rw [← hqq]; exact I.lnew (its := []) (t' := s.toks) .nil (Nat.zero_le _)
  show wpAny _ _ (do let old ← Builtin.List.listItems (.ref q); Builtin.List.listUpdate (.ref q) (fun _ => #[]); letGo old.toList.reverse; Builtin.List.listExtendWith (.ref q) (.ref a) .none) _ _ _
  refine wpAny_bind ?_
  unfold Builtin.List.listItems
  refine wpAny_bind (wpAny_seqItems hS rfl (wpAny_pure ?_))
  show wpAny _ _ (updateSeq q (fun _ => #[]) >>= fun _ => letGo (#[] : Array Value).toList.reverse >>= fun _ => Builtin.List.listExtendWith (.ref q) (.ref a) .none) _ _ _
  refine wpAny_bind (wpAny_updateSeq hS rfl ?_)
  have I2 := I1.lset (f := fun _ => #[]) (its := []) (its' := []) (ys := []) (t' := s.toks) upd_same hS rfl .nil (Nat.zero_le _)
  rw [upd_upd] at I2
  refine wpAny_bind (wpAny_letGo ?_)
  have ha2 : upd H q (.lst []) a = some (.ins C dx fs) := by rw [upd_ne (ne_of_none ha fr)]; exact ha
  have hne : q ≠ a := fun z => by rw [z] at fr; rw [fr] at ha; cases ha
  have i2 : Sub X (k + 1) X.A.in1.in1 := (Sub.in1 (Sub.in1 (⟨hr, rfl⟩ : Sub X (k + 3) X.A)))
  generalize hB : X.A.in1 = A1 at *
  obtain ⟨mA, J, _⟩ := ins_get I2.hok ha2
  obtain ⟨od, J, _⟩ := J.look
  obtain ⟨m0, hF⟩ := I2.fr
  unfold Builtin.List.listExtendWith
  refine wpAny_bind (J.type.here ?_)
  have h1 : Builtin.List.listSameRef (.ref q) (.ref a) = false := by simp [Builtin.List.listSameRef, hne]
  have h2 : (Value.ref C == Value.type "list") = false := rfl
  have h3 : (Value.ref C == Value.type "tuple") = false := rfl
  simp only [h1, h2, h3, Bool.or_false, Bool.false_eq_true, if_false]
  refine wpAny_bind (PySem.W.owit_iter hF I2.ok.mod.kin J M.at_ M.fn ?_)
  have e0 : ∀ {H s}, Inv X pins σ H s → Env0 X.prog X.w X.K X.mg X.base A1.in1 X.stack s H := by
    intro H s I
    have e := I.env0
    exact ⟨by rw [i2.fr]; exact e.frames, e.mod, e.bs, e.bsz, e.funs, e.frf, e.hok, e.bare⟩
  have e0' : ∀ {H s}, Inv X pins σ H s → Env0 X.prog X.w X.K X.mg X.base A1.in1.in1 X.stack s H := by
    intro H s I
    have e := I.env0
    exact ⟨by rw [(Sub.in1 i2).fr]; exact e.frames, e.mod, e.bs, e.bsz, e.funs, e.frf, e.hok, e.bare⟩
  have b1 := bi { s with heap := (s.heap.push { cls := .type "list", data := .seq #[] }).update q (Obj.mapSeq fun _ => #[]) } [.ref a] I2.kIn rfl
  rw [List.append_nil] at b1
  have gd1 : Gd A1.in1 := by rw [← hB]; exact g
  refine wpAny_call (codeAny_mono (F.go (A := A1.in1) gd1 (i2.room.mono (by omega)) (e0 I2) b1 (vs := [.ref a]) (.cons rfl .nil) asked) fun r s' hq' => ?_)
  match r, hq' with
  | .error e, hq' => exact hx pins σ _ _ e s' I2 hq'
  | .ok (.ret u), hq' =>
    obtain ⟨v, H1, I3, rv, it, t, zs, rfl, hit, hq1, ha1, hz, st, sl, hQ⟩ := I2.after hq'
    cases (show u = Value.ref it from rv)
    have qi : q ≠ it := fun z => by rw [z] at hq1; rw [hit] at hq1; cases hq1
    unfold PySem.W.OwitIt
    refine wpAny_specialOf (itT_get I3 hit).typeIs PySem.F.slot_tuple_iterator_next.lookup ?_
    obtain ⟨mA', J', _⟩ := ins_get I3.hok ha1
    obtain ⟨od', J', _⟩ := J'.look
    obtain ⟨m1, hF'⟩ := I3.fr
    refine wpAny_bind (wpAny_holding ?_)
    have loopE : ∀ {s'}, Inv X pins σ H1 s' → codeAny (model X.prog X.w) A1 (.builtin "list.extend.loop" ⟨[.ref q, .ref it, .none], []⟩) (wants (fun r s₂ => r = .none ∧ EP X pins σ Q (.ref q) s₂) X.xe) s' := fun {s'} I' =>
      it_loop (H1 := H1) (by rw [show A1.in1.handled = X.A.handled by rw [← hB]]; exact hr.hd) hz qi st (fun H2 s2 I2 kp e => ⟨rfl, .ref q, H2, I2, rfl, hQ H2 kp e⟩) zs.length 0 H1 s' (by omega) (Nat.zero_le _) I' (fun b o _ _ e => e) hit hq1
    have b2 := bl { s' with heap := s'.heap } [.ref a] I3.kIn rfl
    rw [List.append_nil] at b2
    unfold Builtin.List.listLengthHint
    refine wpAny_bind (wpAny_bind (J'.type.here ((PySem.W.looks_findIn I3.kIn ML.at_).here ?_)))
    refine PySem.W.KFB.if_not rfl ?_
    refine PySem.W.KFB.if_so rfl ?_
    refine wpAny_bind (wpAny_rule ?_)
    refine wpAny_bind (wpAny_attempt ?_)
    have i3 : Sub X k A1.in1.in1 := Sub.in1 i2
    refine PySem.W.len_K hF' I3.mod.kin J' ML.at_ ML.fn ?_
    apply wpAny_call
    refine codeAny_mono (FL.go (A := A1.in1.in1) gd1 i3.room (e0' I3) b2 (vs := [.ref a]) (.cons rfl .nil) sl) (fun res s2 z => ?_)
    match res, z with
    | .error e, z => exact z.elim
    | .ok (.ret u), z =>
      obtain ⟨v, H2, I4, rv, rfl, eH⟩ := I3.after z
      rw [eH] at I4
      obtain ⟨tk, rfl⟩ := rv
      refine ⟨⟨by omega, by omega⟩, ?_⟩
      refine wpAny_bind (m := asInt? (.int zs.length _)) (wpAny_pure ?_)
      refine PySem.W.KFB.if_not (by unfold Builtin.List.listTooLong; exact decide_eq_false (by rw [sizeLine_eq]; omega)) ?_
      refine wpAny_pure ?_
      have I5 := I4.tok (s2.toks + 1)
      refine wpAny_ite_split (fun _ => ?_) (fun _ => wpAny_pure ⟨plainId_quiet PySem.F.plain_extend_loop _, loopE I5⟩)
      refine wpAny_bind (wpAny_rule ?_)
      refine wpAny_bind ?_
      obtain ⟨z, its, k3, r3, hl3, e3⟩ := I5.lstM hq1
      cases r3
      show wpAny _ _ (updateSeq q (·.push .none) >>= fun _ => updateSeq q (·.pop)) _ _ _
      refine wpAny_bind (wpAny_updateSeq e3 rfl ?_)
      have I6 := I5.lset (f := (·.push Value.none)) (its' := [Value.none]) (ys := [.non]) (t' := s2.toks + 1) hq1 e3 (by simp) (.cons rfl .nil) (by rw [List.length_singleton, sizeLine_eq]; decide)
      obtain ⟨z4, its4, k4, r4, hl4, e4⟩ := I6.lstM upd_same
      obtain ⟨u4, rfl, ru4⟩ := r4.one
      refine wpAny_updateSeq e4 rfl ?_ (by show 1 ≤ sizeLine; rw [sizeLine_eq]; decide) (by show 0 ≤ sizeLine + 1; exact Nat.zero_le _)
      have I7 := I6.lset (f := (·.pop)) (its := [u4]) (its' := []) (ys := []) (t' := s2.toks + 1) upd_same e4 (by rfl) .nil (Nat.zero_le _)
      rw [upd_upd] at I7
      have hH : upd H1 q (.lst []) = H1 := by
        funext b
        by_cases hb : b = q
        · rw [hb, upd_same, hq1]
        · rw [upd_ne hb]
      rw [hH] at I7
      exact wpAny_pure ⟨plainId_quiet PySem.F.plain_extend_loop _, loopE I7⟩
    | .ok .next, z => exact False.elim z
    | .ok .brk, z => exact False.elim z
    | .ok .cont, z => exact False.elim z
  | .ok .next, hq' => exact False.elim hq'
  | .ok .brk, hq' => exact False.elim hq'
  | .ok .cont, hq' => exact False.elim hq'
end
end GL
/-! t.index(x), t a tuple of data of any depth -/
namespace GL
open PySem PySem.Spec PyProof.Rows L2
section
variable {X : Cx}
def rIndexT (K : PySem.W.Frag) : V → List V → Hp → VK → Prop := fun x xs H Q => ∃ (a : Addr) (y : V) (d : PyData) (ds : List PyData) (j : Nat) (z : PyData), x = V.ref a ∧ xs = [y] ∧ Dp K H (V.ref a) (.tuple ds) ∧ Dp K H y d ∧
  SeqAt.shaped (.tuple ds) = true ∧ SeqAt.shaped d = true ∧ ds[j]? = some z ∧ PyData.eqv z d = true ∧ (∀ (m : Nat) (z' : PyData), m < j → ds[m]? = some z' → PyData.eqv z' d = false) ∧ Q (.int (j : Nat)) H
theorem mt_indexT (hu : X.A.units + 65 < cLine) : MtR X "tuple.index" (rIndexT X.K) := by
  intro pins s σ H x xs v us Q I rx rxs h
  obtain ⟨a, y, d, ds, j, z, rfl, rfl, hl, hy, sl, sd, hz, hzj, hno, q⟩ := h
  cases rx
  cases rxs with
  | cons ry rt =>
    rename_i uy ut
    cases rt
    obtain ⟨bs, r1⟩ := Dp.reads I d y uy hy ry
    have hxs : PyData.canLayAll0 ds = true := SeqAt.canLay_of_shaped sl
    have hroom : X.A.units + 1 + min (PyData.depthAll ds) d.depth < cLine := room_in_shaped sd hu
    cases hl with
    | tup hs ha =>
      obtain ⟨its, rv, pl, hlen⟩ := I.tuple hs
      obtain ⟨⟨cls, dd, dt, sls⟩, ho, hc, n, hdt⟩ := pl
      simp only at hc hdt
      subst hc hdt
      obtain ⟨as, h4⟩ := Dp.readsAll I ds _ its ha rv
      have hn : its.length = ds.length := SeqAt.ReadsAll.length ds its as h4
      have hmap : its.map (SeqAt.readOf s.heap) = ds := SeqAt.readsAll_map ds its as hxs h4
      have hvl := rv.length
      have hsl := sizeLine_eq
      obtain ⟨hjd, _⟩ := List.getElem?_eq_some_iff.mp hz
      have hjl : j < its.length := by omega
      have hj : j < its.toArray.size := by simpa using hjl
      have at_ : ∀ (m : Nat) (hm : m < its.toArray.size) (z' : PyData), ds[m]? = some z' → SeqAt.readOf s.heap its.toArray[m] = z' := by
        intro m hm z' hz'
        have hml : m < its.length := by simpa using hm
        rw [← hmap, List.getElem?_map, List.getElem?_eq_getElem hml] at hz'
        have e1 : SeqAt.readOf s.heap its[m] = z' := Option.some.inj (show some (SeqAt.readOf s.heap its[m]) = some z' from hz')
        simpa using e1
      refine call_meets PySem.F.slot_tuple_index ⟨_, ho, rfl⟩ PySem.F.entry_tuple_index (PySem.F.args_tuple_index_2 _ _)
        (TI.tuple_indexAt a its.toArray n dd sls uy (fun u => PyData.eqv (SeqAt.readOf s.heap u) d) j hj ?_ ?_) ⟨ho, SeqAt.items_eqAt (vs := its.toArray) (show ReadsAll s.heap its.toArray.toList ds as from h4) r1 hxs (SeqAt.canLay_of_shaped sd) hroom, ?_⟩
      · show PyData.eqv (SeqAt.readOf s.heap its.toArray[j]) d = true
        rw [at_ j hj z hz]
        exact hzj
      · intro m hm hmj
        have hmd : m < ds.length := by omega
        have hz' : ds[m]? = some ds[m] := List.getElem?_eq_getElem hmd
        show PyData.eqv (SeqAt.readOf s.heap its.toArray[m]) d = false
        rw [at_ m hm _ hz']
        exact hno m _ hmj hz'
      · exact ⟨.int (j : Nat), H, I.tok _, ⟨_, rfl⟩, q⟩
end
end GL
/-! points as data; what the Grid's own methods promise -/
namespace GL
open PySem PySem.Spec PyProof.Rows L2
variable {K : PySem.W.Frag} {C : Addr} {U : Bool → Addr} {us : Bool → List Addr} {t : Bool}
/-! ### points as data -/
theorem ptD_lay (u : Int × Int) : (ptD u).canLay0 = true := by simp [ptD, PyData.canLay0, PyData.canLayAll0]
theorem ptD_depth (u : Int × Int) : (ptD u).depth = 1 := by simp [ptD, PyData.depth, PyData.depthAll]
theorem ptDs_lay : ∀ zs : List (Int × Int), PyData.canLayAll0 (zs.map ptD) = true
  | [] => by simp [PyData.canLayAll0]
  | z :: zs => by simp [PyData.canLayAll0, ptD_lay z, ptDs_lay zs]
theorem ptDs_depth : ∀ zs : List (Int × Int), PyData.depthAll (zs.map ptD) ≤ 1
  | [] => by simp [PyData.depthAll]
  | z :: zs => by
    have h1 := ptDs_depth zs
    have h2 := ptD_depth z
    simp only [List.map_cons, PyData.depthAll]
    omega
theorem ptDs_shaped (zs : List (Int × Int)) : SeqAt.shaped (.list (zs.map ptD)) = true := by
  have h1 := ptDs_depth zs
  have h2 : PyData.depth (.list (zs.map ptD)) ≤ 64 := by
    simp only [PyData.depth]
    omega
  show (PyData.canLay0 (.list (zs.map ptD)) && decide (PyData.depth (.list (zs.map ptD)) ≤ 64)) = true
  rw [Bool.and_eq_true]
  exact ⟨by simp only [PyData.canLay0]; exact ptDs_lay zs, decide_eq_true h2⟩
theorem ptDt_shaped (zs : List (Int × Int)) : SeqAt.shaped (.tuple (zs.map ptD)) = true := by
  have h1 := ptDs_depth zs
  have h2 : PyData.depth (.tuple (zs.map ptD)) ≤ 64 := by
    simp only [PyData.depth]
    omega
  show (PyData.canLay0 (.tuple (zs.map ptD)) && decide (PyData.depth (.tuple (zs.map ptD)) ≤ 64)) = true
  rw [Bool.and_eq_true]
  exact ⟨by simp only [PyData.canLay0]; exact ptDs_lay zs, decide_eq_true h2⟩
theorem ptDs_eqv : ∀ zs ys : List (Int × Int), PyData.eqvAll (zs.map ptD) (ys.map ptD) = decide (zs = ys)
  | [], [] => rfl
  | [], y :: ys => rfl
  | z :: zs, [] => rfl
  | z :: zs, y :: ys => by
    rw [List.map_cons, List.map_cons, PyData.eqvAll, ptD_eqv, ptDs_eqv zs ys, Bool.eq_iff_iff]
    simp
theorem PAt.dp {H : Hp} {a : Addr} {u : Int × Int} (h : PAt K H a u) : Dp K H (.ref a) (ptD u) := .tup h (.cons (.int _) (.cons (.int _) .nil))
/-- at the addresses as stand the points ps -/
def PAts (K : PySem.W.Frag) (H : Hp) (as : List Addr) (ps : List (Int × Int)) : Prop := as.length = ps.length ∧ ∀ (i : Nat) a p, as[i]? = some a → ps[i]? = some p → PAt K H a p
theorem PAts.dp {H : Hp} : ∀ {as : List Addr} {ps : List (Int × Int)}, PAts K H as ps → DpAll K H (as.map V.ref) (ps.map ptD)
  | [], [], _ => .nil
  | [], p :: ps, h => by cases h.1
  | a :: as, [], h => by cases h.1
  | a :: as, p :: ps, h => .cons (h.2 0 a p rfl rfl).dp (PAts.dp (as := as) (ps := ps) ⟨Nat.succ.inj h.1, fun i a p e1 e2 => h.2 (i + 1) a p e1 e2⟩)
theorem PAts.same {H H' : Hp} {as : List Addr} {ps : List (Int × Int)} (h : PAts K H as ps) (s : Same H H') : PAts K H' as ps := ⟨h.1, fun i a p e1 e2 => (h.2 i a p e1 e2).same s⟩
theorem PAts.got {q : Addr} {H H' : Hp} {as : List Addr} {ps : List (Int × Int)} (h : PAts K H as ps) (g : Got q H H') (d : Die H q) : PAts K H' as ps := ⟨h.1, fun i a p e1 e2 => (h.2 i a p e1 e2).got g d⟩
theorem PAts.snoc {H : Hp} {as : List Addr} {ps : List (Int × Int)} {a : Addr} {p : Int × Int} (h : PAts K H as ps) (e : PAt K H a p) : PAts K H (as ++ [a]) (ps ++ [p]) := by
  refine ⟨by rw [List.length_append, List.length_append, h.1]; rfl, fun i b q e1 e2 => ?_⟩
  rcases Nat.lt_trichotomy i as.length with l | l | l
  · rw [List.getElem?_append_left l] at e1
    rw [List.getElem?_append_left (by rw [← h.1]; exact l)] at e2
    exact h.2 i b q e1 e2
  · rw [List.getElem?_append_right (Nat.le_of_eq l.symm), l, Nat.sub_self] at e1
    rw [List.getElem?_append_right (by rw [← h.1]; exact Nat.le_of_eq l.symm), ← h.1, l, Nat.sub_self] at e2
    cases e1
    cases e2
    exact e
  · rw [List.getElem?_eq_none (by rw [List.length_append]; exact l)] at e1
    cases e1
theorem PAt.lst {H : Hp} {a D : Addr} {u : Int × Int} {xs : List V} {o : HO} (h : PAt K H a u) (e : H D = some (.lst xs)) : PAt K (upd H D o) a u := by
  rcases h with (z | ⟨ob, z⟩) | z
  · exact .inl (.inl (by rw [upd_ne (ne_of z e (by intro z; cases z))]; exact z))
  · exact .inl (.inr ⟨ob, by rw [upd_ne (ne_of z e (by intro z; cases z))]; exact z⟩)
  · exact .inr z
theorem PAts.lst {H : Hp} {as : List Addr} {D : Addr} {ps : List (Int × Int)} {xs : List V} {o : HO} (h : PAts K H as ps) (e : H D = some (.lst xs)) : PAts K (upd H D o) as ps := ⟨h.1, fun i a p e1 e2 => (h.2 i a p e1 e2).lst e⟩
theorem Uni.pts {w : World} {aG dU : Addr} (hU : Uni K w aG dU U us) (t : Bool) (H : Hp) : PAts K H (us t) (ux t) := ⟨by rw [hU.len, len_ux], fun i a p e1 e2 => hU.pt t i a p e1 e2 H⟩
theorem pts_at {H : Hp} {as : List Addr} (h : PAts K H as (ux t)) (n : Int) : ∃ a : Addr, PAt K H a (uni t n) ∧ atI (as.map V.ref) (n % (num t : Int)) = some (.ref a) := by
  have h1 := Int.emod_nonneg n (Int.ne_of_gt (num_pos (t := t)))
  have h2 := Int.emod_lt_of_pos n (num_pos (t := t))
  obtain ⟨j, hj⟩ : ∃ j : Nat, n % (num t : Int) = (j : Int) := ⟨(n % (num t : Int)).toNat, by omega⟩
  have e := uni_at (t := t) n
  rw [hj] at e ⊢
  have l : j < as.length := by rw [h.1, len_ux]; omega
  refine ⟨as[j], h.2 j _ _ (List.getElem?_eq_getElem l) e, atI_nat ?_⟩
  rw [List.getElem?_map, List.getElem?_eq_getElem l]
  rfl
/-- which unit a point is -/
def dirOf (t : Bool) (u : Int × Int) : Option Nat := (ux t).findIdx? fun p => decide (p = u)
def dirV (t : Bool) (u : Int × Int) : V := match dirOf t u with | some j => .int (j : Nat) | none => .non
def dirD (t : Bool) (u : Int × Int) : PyData := match dirOf t u with | some j => .int (j : Nat) | none => .none
theorem dir_in (t : Bool) (u : Int × Int) : (((ux t).map ptD).any fun z => PyData.eqv z (ptD u)) = (dirOf t u).isSome := by
  unfold dirOf
  rw [List.findIdx?_isSome, List.any_map]
  congr 1
  funext p
  exact ptD_eqv p u
theorem dir_at {t : Bool} {u : Int × Int} {j : Nat} (h : dirOf t u = some j) : j < num t ∧ ((ux t).map ptD)[j]? = some (ptD u) ∧ ∀ (m : Nat) (z : PyData), m < j → ((ux t).map ptD)[m]? = some z → PyData.eqv z (ptD u) = false := by
  unfold dirOf at h
  obtain ⟨hj, e, no⟩ := List.findIdx?_eq_some_iff_getElem.mp h
  refine ⟨by rw [← len_ux]; exact hj, ?_, fun m z hm hz => ?_⟩
  · rw [List.getElem?_map, List.getElem?_eq_getElem hj, of_decide_eq_true e]
    rfl
  · have hm' : m < (ux t).length := Nat.lt_trans hm hj
    rw [List.getElem?_map, List.getElem?_eq_getElem hm'] at hz
    cases hz
    rw [ptD_eqv]
    exact Bool.eq_false_iff.mpr (no m hm)
theorem dirD_ok (t : Bool) (u : Int × Int) : (dirD t u).showable = true ∧ (dirD t u).hasDict = false ∧ (dirD t u).depth ≤ 20 ∧ (dirD t u).shown.length ≤ sizeLine := by
  unfold dirD
  cases e : dirOf t u with
  | none => exact ⟨by decide +kernel, by decide +kernel, by decide +kernel, by decide +kernel⟩
  | some j =>
    have hj : j < 6 := Nat.lt_of_lt_of_le (dir_at e).1 (by cases t <;> decide)
    have all : ∀ j, j < 6 → (PyData.int (j : Nat)).showable = true ∧ (PyData.int (j : Nat)).hasDict = false ∧ (PyData.int (j : Nat)).depth ≤ 20 ∧ (PyData.int (j : Nat)).shown.length ≤ sizeLine := by decide +kernel
    exact all j hj
theorem dirD_dp {H : Hp} {t : Bool} {u : Int × Int} : Dp K H (dirV t u) (dirD t u) := by
  unfold dirV dirD
  cases dirOf t u with
  | none => exact .non
  | some j => exact .int _
theorem uniD_ok (t : Bool) (k : Int) : (ptD (uni t k)).showable = true ∧ (ptD (uni t k)).hasDict = false ∧ (ptD (uni t k)).depth ≤ 20 ∧ (ptD (uni t k)).shown.length ≤ sizeLine := by
  have all : ∀ p ∈ ux t, (ptD p).showable = true ∧ (ptD p).hasDict = false ∧ (ptD p).depth ≤ 20 ∧ (ptD p).shown.length ≤ sizeLine := by cases t <;> decide +kernel
  exact all _ (List.mem_of_getElem? (uni_at (t := t) k))
/-- what is told of a grid -/
def toldD (t : Bool) : PyData := .tuple [.str (nm t), .int ((num t : Int) / 2), .tuple ((ux t).map ptD), .int (num t : Int), .str (nm t)]
theorem toldD_ok (t : Bool) : (toldD t).showable = true ∧ (toldD t).hasDict = false ∧ (toldD t).depth ≤ 20 ∧ (toldD t).shown.length ≤ sizeLine := by cases t <;> exact ⟨by decide +kernel, by decide +kernel, by decide +kernel, by decide +kernel⟩
theorem toldD_dp {H : Hp} {a b : Addr} {as : List Addr} (h : H a = some (.tup [.str (nm t), .int ((num t : Int) / 2), .ref b, .int (num t : Int), .str (nm t)])) (hb : SqT K H b (as.map V.ref)) (p : PAts K H as (ux t)) : Dp K H (.ref a) (toldD t) :=
  .tup (SqT.of h) (.cons (.str _) (.cons (.int _) (.cons (.tup hb p.dp) (.cons (.int _) (.cons (.str _) .nil)))))
/-! ### what of the class Grid stands in the text, for == and isinstance -/
structure GIs (K : PySem.W.Frag) (C : Addr) : Prop where
  eq : EqC K C
  is : (((PySem.W.clsIn K C).isSome && PySem.W.typeIn K (.ref C) == some (.type "type")) = true)
  ha : PySem.W.findIn K (.ref C) "__class__" = some (some (.builtin "object.__class__"))
  hn : PySem.W.specialIn K (.builtin "object.__class__") "__get__" = some (some (.builtin "getset_descriptor.__get__"))
  htk : PySem.W.takesIn K (.builtin "object.__class__") = some true
  hm : PySem.W.mroIn K C (.type "object") = some true
theorem gis_mk (h1 : PySem.W.isClsIn K C = true) (h2 : PySem.W.typeIn K (.ref C) = some (.type "type")) (ne : PySem.W.findIn K (.ref C) "__ne__" = some (some (.builtin "object.__ne__"))) (ob : PySem.W.subIn K (.ref C) (.type "object") = some true)
    (ha : PySem.W.findIn K (.ref C) "__class__" = some (some (.builtin "object.__class__"))) (hn : PySem.W.specialIn K (.builtin "object.__class__") "__get__" = some (some (.builtin "getset_descriptor.__get__"))) (htk : PySem.W.takesIn K (.builtin "object.__class__") = some true)
    (hm : PySem.W.mroIn K C (.type "object") = some true) : GIs K C :=
  ⟨⟨ne, ob⟩, by
    have h1' : (PySem.W.clsIn K C).isSome = true := h1
    rw [h1', h2]
    rfl, ha, hn, htk, hm⟩
theorem GIs.ty {H : Hp} {a dx : Addr} {fs : List (Str × V)} (i : GIs K C) (c : Cls K C) (e : H a = some (.ins C dx fs)) : TyX K H (.ref a) (.ref C) := .base (.ins e c i.ha i.hn i.htk i.hm)
theorem kit_self : PySem.W.kitOne K (.ref C) (.ref C) = some true := by
  unfold PySem.W.kitOne
  rw [if_pos (beq_self_eq_true _)]
theorem GIs.kit (i : GIs K C) (k : Kd) : PySem.W.kitOne K (.type k.nm) (.ref C) = some false := by
  unfold PySem.W.kitOne
  rw [if_neg (by intro z; cases beq_iff_eq.mp z)]
  show (if _ then _ else _) = _
  rw [if_pos i.is]
  cases k <;> rfl
theorem nf_kd (k : Kd) : PySem.W.notFirst K C (.type k.nm) = true := by cases k <;> rfl
theorem nf_self : PySem.W.notFirst K C (.ref C) = true := by
  unfold PySem.W.notFirst
  rw [beq_self_eq_true]
  rfl
theorem Of.got {p : Addr} {H H' : Hp} {x : V} {k : Kd} (h : Of K H x k) (g : Got p H H') (d : Die H p) : Of K H' x k := by
  obtain ⟨_, _, _, _, e0⟩ := d
  obtain ⟨_, _, _, _, e1⟩ := g.die
  have kp : ∀ {a : Addr} {o : HO}, H a = some o → (∀ l, o ≠ .lst l) → H' a = some o := fun {a o} e n => g.keep _ _ e (ne_of e e0 (by intro z; exact n _ z))
  unfold Of at h ⊢
  generalize ht : Value.type k.nm = t at h ⊢
  cases h with
  | base b =>
    cases b with
    | non => exact .base .non
    | bl x => exact .base (.bl x)
    | int i => exact .base (.int i)
    | str y => exact .base (.str y)
    | flt y => exact .base (.flt y)
    | @lst a xs e =>
      by_cases ep : a = p
      · subst ep; exact .base (.lst e1)
      · exact .base (.lst (g.keep _ _ e ep))
    | frz e => exact .base (.frz (kp e (fun l z => nomatch z)))
    | tup e => exact .base (.tup (kp e (fun l z => nomatch z)))
    | dK e => exact .base (.dK (kp e (fun l z => nomatch z)))
    | dT e => exact .base (.dT (kp e (fun l z => nomatch z)))
    | ins e a b c d e2 => exact .base (.ins (kp e (fun l z => nomatch z)) a b c d e2)
  | byt b => exact .byt b
  | set e => exact .set (kp e (fun l z => nomatch z))
  | kList e c => exact .kList e c
  | kTuple e c => exact .kTuple e c
  | kDict e c => exact .kDict e c
  | fTuple e => exact .fTuple (kp e (fun l z => nomatch z))
  | fDict e => exact .fDict (kp e (fun l z => nomatch z))
/-- the tuples of units have no dict -/
def UTy (K : PySem.W.Frag) (U : Bool → Addr) : Prop := ∀ t, ∃ o, K.lookup (U t) = some o ∧ o.cls = .type "tuple" ∧ o.dict = none
/-! ### promises -/
/-- y as the other side of a grid t: r tells whether it is a grid of that name -/
def GOpd (K : PySem.W.Frag) (C : Addr) (U : Bool → Addr) (H : Hp) (t : Bool) (y : V) (r : Bool) : Prop := (∃ b t', y = .ref b ∧ GridAt C U H b t' ∧ r = (t == t')) ∨ ∃ k : Kd, Of K H y k ∧ r = false
theorem GOpd.ty {H : Hp} {t r : Bool} {y : V} (i : GIs K C) (c : Cls K C) (h : GOpd K C U H t y r) : ∃ T, TyX K H y T ∧ PySem.W.notFirst K C T = true := by
  rcases h with ⟨b, t', rfl, ⟨dx, e⟩, _⟩ | ⟨k, o, _⟩
  · exact ⟨_, i.ty c e, nf_self⟩
  · exact ⟨_, o, nf_kd k⟩
def spGEq (K : PySem.W.Frag) (C : Addr) (U : Bool → Addr) : Sp := fun vs H Q _ => ∃ g t y r, vs = [.ref g, y] ∧ GridAt C U H g t ∧ GOpd K C U H t y r ∧ Q (.bl r) H
def spGIter (C : Addr) (U : Bool → Addr) : Sp := fun vs H Q _ => ∃ g t, vs = [.ref g] ∧ GridAt C U H g t ∧ ∀ it, H it = none → Q (.ref it) (upd H it (ItT (U t) it 0))
def spGStr (C : Addr) (U : Bool → Addr) : Sp := fun vs H Q _ => ∃ g t, vs = [.ref g] ∧ GridAt C U H g t ∧ Q (.str (nm t)) H
def spGDir (K : PySem.W.Frag) (C : Addr) (U : Bool → Addr) : Sp := fun vs H Q _ => ∃ g t a u, vs = [.ref g, .ref a] ∧ GridAt C U H g t ∧ PAt K H a u ∧ ptOk u ∧ Q (dirV t u) H
end GL
/-! operators of own classes: both sides of one class, of two classes, - x, bool(x), x[i] -/
namespace GL
open PySem PySem.Spec PyProof.Rows L2
section
variable {prog : Program} {w : World} {A : Around} {E : Value → Shared → Prop} {s : Shared} {K : PySem.W.Frag} {x C D L f fD : Addr} {h₀ : Heap} {m : Str → Option Value} {ox : Obj} {od : Option Obj} {b : Value}
theorem inst_keep {h h' : Heap} (I : PySem.W.InstAt h x ox C od) (k : ∀ b o, h.get? b = some o → h'.get? b = some o) : PySem.W.InstAt h' x ox C od := by
  refine ⟨k _ _ I.at_, I.cls, I.no, ?_⟩
  have z := I.dict
  revert z
  cases ox.dict <;> cases od <;> intro z <;> first | exact z | exact k _ _ z
/-- what of two classes the text has, where D is no subclass of C -/
structure BinC (K : PySem.W.Frag) (C : Addr) (nm : String) : Prop where
  first : PySem.W.selfFirst K C = true
  own : ∃ f : Addr, PySem.W.findIn K (.ref C) (PySem.dunder nm) = some (some (.ref f))
  refl : PySem.W.findIn K (.ref C) (dunderR nm) = some none
open PySem.W PySem.Calls Builtin in
theorem bin_mixed {op : Operator} {Q : Value → Shared → Prop} (F : Fr h₀ L s.heap m) (X₀ : K.In h₀) (I : InstAt s.heap x ox C od) (hb : Looks (model prog w) s.heap (typeOf b) (.ref D)) (hCD : C ≠ D)
    (cC : BinC K C op.info.2) (cD : BinC K D op.info.2) (hs : findIn K (.ref C) (PySem.dunder op.info.2) = some (some (.ref f))) (hf : isFn K (.ref f) = true) (hsub : subIn K (.ref D) (.ref C) = some false)
    (h : wpAny (model prog w) A (call (.ref f) [.ref x, b]) (PySem.W.CmpBack Q) E s) : wpAny (model prog w) A (binaryOp op (.ref x) b) Q E s := by
  have X := X₀.keeps F.keep
  obtain ⟨cd, rest, hcd, hm⟩ := ksp_first cC.first
  obtain ⟨cd2, rest2, hcd2, hm2⟩ := ksp_first cD.first
  obtain ⟨gD, hsD⟩ := cD.own
  have hrC := cC.refl
  have hrD := cD.refl
  rcases hi : op.info with ⟨sym, nm'⟩
  rw [hi] at hs hsD hrC hrD
  dsimp only at hs hsD hrC hrD
  have one := ksp_try X I hs hf h
  obtain ⟨hh, g, d, tt, os⟩ := s
  have M1 : Looks (model prog w) hh (typeOf (.ref x)) (.ref C) := I.type
  have M2 : Looks (model prog w) hh (typeOf b) (.ref D) := hb
  have M3 : Looks (model prog w) hh (fillsNumberSlot (.ref C) nm') true := fills_K X hcd hm hs
  have M4 : Looks (model prog w) hh (fillsNumberSlot (.ref D) nm') true := fills_K X hcd2 hm2 hsD
  have M5 : Looks (model prog w) hh (isSubtype (.ref D) (.ref C)) false := looks_subIn X hsub
  have M6 : Looks (model prog w) hh (numberSlotInPython (.ref C) nm') true := ksp_inPy X hs hrC (.inl rfl)
  have M7 : Looks (model prog w) hh (numberSlotInPython (.ref D) nm') true := ksp_inPy X hsD hrD (.inl rfl)
  have hne : (Value.ref C == Value.ref D) = false := Bool.eq_false_iff.mpr fun q => by cases beq_iff_eq.mp q; exact hCD rfl
  simp only [binaryOp, hi]
  refine wpAny_holding (wpAny_bind ?_)
  unfold binaryOp1
  refine wpAny_bind (M1.at (wpAny_bind (M2.at (wpAny_bind (M3.at ?_)))))
  simp only [hne, Bool.false_eq_true, if_false]
  ksp_lk
  refine wpAny_mono one (fun r s' hr' => ?_) fun _ _ e => e
  obtain ⟨v, rfl, hq⟩ := hr'
  ksp_lk
  exact hq

open PySem.W PySem.Calls Builtin in
theorem raise_attr {M : Model} {α : Type} {msg : Str} {Q : α → Shared → Prop} (hh : A.handled = none) (hm : msg.length ≤ sizeLine)
    (h : ∀ h' tk e, (∀ b o, s.heap.get? b = some o → h'.get? b = some o) → (∃ o, h'.get? e = some o ∧ o.cls = .type "AttributeError") → E (.ref e) { s with heap := h', toks := tk }) :
    wpAny M A (raiseErrorStr "AttributeError" msg : Sem α) Q E s := by
  obtain ⟨hp, g, d, tk, os⟩ := s
  unfold raiseErrorStr
  refine wpAny_bind (wpAny_mkStr ?_ hm)
  refine wpAny_bind ?_
  unfold newExc newTuple
  refine wpAny_bind (wpAny_newObj_type ?_ (by size_fits))
  refine wpAny_bind (m := firstArgMember _ _) (wpAny_of_eq (a := Value.none) (by simp only [firstArgMember, attrError_no_first]; rfl) ?_)
  rw [ownMembersOf_AttributeError]
  refine wpAny_newObj_type ?_ (by size_fits)
  unfold raiseNew
  refine wpAny_bind (wpAny_handled ?_)
  rw [hh]
  first
    | refine wpAny_throw ?_
    | refine wpAny_bind (wpAny_pure (wpAny_throw ?_))
  dsimp only
  exact h _ _ _ (fun b o e => Heap.get?_push_of_some _ (Heap.get?_push_of_some _ e)) ⟨_, Heap.get?_push_size _ rfl, rfl⟩
open PySem.W PySem.Calls Builtin in
/-- a class has no attribute of a name: an error is made and forgotten -/
theorem cls_miss {tk0 : Tok} {name nm : Str} {cd : ClassData} {Q : Option Value → Shared → Prop} (X : K.In s.heap) (ho : nsIn K cStatics "thirdparty.any" = some none) (hty : typeIn K (.ref D) = some (.type "type")) (h1 : findIn K (.type "type") name = some none)
    (h2 : findIn K (.ref D) name = some none) (hga : findIn K (.type "type") "__getattribute__" = some (some (.builtin "type.__getattribute__"))) (hgg : findIn K (.type "type") "__getattr__" = some none) (hcd : clsIn K D = some cd) (hcn : cd.name = nm)
    (hs8 : nm.cps.foldl (fun k c => k + (Str.utf8Of c).length) 0 ≤ 100) (hfit : (((s!"type object '{nm.toString}' has no attribute '" : String) : Str) ++ name ++ ("'" : Str)).length ≤ sizeLine) (hh : A.handled = none)
    (h : ∀ h' tk, (∀ b o, s.heap.get? b = some o → h'.get? b = some o) → Q none { s with heap := h', toks := tk }) : wpAny (model prog w) A (getAttrBy? (.ref D) (.str name tk0)) Q E s := by
  have LO : Looks (model prog w) s.heap (opaqueClassAbove (.ref D)) none := looks_opaque X ho
  have LT : Looks (model prog w) s.heap (typeOf (.ref D)) (.type "type") := looks_typeIn X hty
  have LG := looks_findIn (M := model prog w) X hga
  have L1 := looks_findIn (M := model prog w) X h1
  have L2 := looks_findIn (M := model prog w) X h2
  have L3 := looks_findIn (M := model prog w) X hgg
  have LC := looks_clsIn (M := model prog w) X hcd
  obtain ⟨hp, g, d, tk, os⟩ := s
  dsimp only at X LO LT LG L1 L2 L3 LC h
  unfold getAttrBy? getAttrBy
  refine wpAny_bind (wpAny_attempt (wpAny_holding (wpAny_bind (LT.at (wpAny_bind (LG.at ?_))))))
  dsimp only
  rw [show (onTheHeap (.type "type") && Value.builtin "type.__getattribute__" == Value.builtin "object.__getattribute__") = false from rfl, if_neg (by decide)]
  unfold getAttrByItsOwn
  refine wpAny_bind (m := hookBefore (.type "type")) (wpAny_pure ?_)
  refine wpAny_bind (wpAny_attempt (wpAny_holding ?_))
  unfold callGetattribute
  rw [show (false && onTheHeap (Value.builtin "type.__getattribute__")) = false from rfl, if_neg (by decide)]
  unfold boundAndCalled
  rw [KF.slot_tga.bind]
  refine wpAny_bind (wpAny_pure ?_)
  show wpAny _ _ (call (.builtin "type.__getattribute__") [.ref D, .str name tk0]) _ _ _
  refine wpAny_call ?_
  refine codeAny_call_builtin KF.slot_tga.plain KF.entry_tga ?_
  refine @check_slot (model prog w) _ _ ⟨hp, g, d, tk, os⟩ "type.__getattribute__" "type" "__getattribute__" (.ref D) [.str name tk0] [] _ (by decide +kernel) (by decide +kernel) (LT.andThen (Looks.of_pure (by rw [isSubtype_type]; kernel_rfl))) (KF.args_tga (.ref D) (.str name tk0)) ?_
  unfold Builtin.«type.__getattribute__»
  refine wpAny_bind (wpAny_pure (wpAny_bind (LO.at (wpAny_bind (LT.at (wpAny_bind (L1.at ?_)))))))
  refine wpAny_bind (wpAny_pure ?_)
  refine wpAny_bind (L2.at ?_)
  dsimp only
  refine wpAny_bind (wpAny_rule ?_)
  unfold typeNameCut
  refine wpAny_bind (wpAny_bind (LC.at ?_))
  dsimp only
  rw [hcn, if_pos hs8]
  refine wpAny_pure ?_
  refine raise_attr hh hfit fun h' tk' e keep ⟨o, ho', hc⟩ => ?_
  have L3' : Looks (model prog w) h' (typeLookup (.type "type") "__getattr__") none := L3.keeps keep
  have isE : ∀ t'', (⟨h', g, d, t'', os⟩ : Shared).TypeIs (.ref e) "AttributeError" := fun _ => ⟨o, ho', hc⟩
  unfold getattributeRaised
  refine wpAny_bind (wpAny_isInstance (isE _) sub_AttributeError ?_)
  rw [if_pos rfl]
  unfold hookBehind
  refine wpAny_bind (L3'.at ?_)
  show wpAny _ _ (throw (.ref e)) _ _ _
  refine wpAny_throw ?_
  refine wpAny_bind (wpAny_isInstance (isE _) sub_AttributeError ?_)
  rw [if_pos rfl]
  exact wpAny_pure (h _ _ keep)
open PySem.W PySem.Calls Builtin in
/-- b is of a class derived from that of x -/
theorem bin_sub {op : Operator} {nm : Str} {cd : ClassData} {Q : Value → Shared → Prop} (F : Fr h₀ L s.heap m) (X₀ : K.In h₀) (I : InstAt s.heap x ox C od) (hb : Looks (model prog w) s.heap (typeOf b) (.ref D)) (hCD : C ≠ D)
    (cC : BinC K C op.info.2) (cD : BinC K D op.info.2) (hs : findIn K (.ref C) (PySem.dunder op.info.2) = some (some (.ref f))) (hf : isFn K (.ref f) = true) (hsub : subIn K (.ref D) (.ref C) = some true)
    (ho : nsIn K cStatics "thirdparty.any" = some none) (hty : typeIn K (.ref D) = some (.type "type")) (h1 : findIn K (.type "type") (dunderR op.info.2) = some none)
    (hga : findIn K (.type "type") "__getattribute__" = some (some (.builtin "type.__getattribute__"))) (hgg : findIn K (.type "type") "__getattr__" = some none) (hcd : clsIn K D = some cd) (hcn : cd.name = nm)
    (hs8 : nm.cps.foldl (fun k c => k + (Str.utf8Of c).length) 0 ≤ 100) (hfit : (((s!"type object '{nm.toString}' has no attribute '" : String) : Str) ++ dunderR op.info.2 ++ ("'" : Str)).length ≤ sizeLine) (hfit2 : (dunderR op.info.2).length ≤ sizeLine) (hh : A.handled = none)
    (h : ∀ h' tk, (∀ b o, s.heap.get? b = some o → h'.get? b = some o) → wpAny (model prog w) A (call (.ref f) [.ref x, b]) (PySem.W.CmpBack Q) E { s with heap := h', toks := tk }) : wpAny (model prog w) A (binaryOp op (.ref x) b) Q E s := by
  have X := X₀.keeps F.keep
  obtain ⟨cd1, rest, hcd1, hm⟩ := ksp_first cC.first
  obtain ⟨cd2, rest2, hcd2, hm2⟩ := ksp_first cD.first
  obtain ⟨gD, hsD⟩ := cD.own
  have hrC := cC.refl
  have hrD := cD.refl
  rcases hi : op.info with ⟨sym, nm'⟩
  rw [hi] at hs hsD hrC hrD h1 hfit hfit2
  dsimp only at hs hsD hrC hrD h1 hfit hfit2
  obtain ⟨hp, g, d, tt, os⟩ := s
  have M1 : Looks (model prog w) hp (typeOf (.ref x)) (.ref C) := I.type
  have M2 : Looks (model prog w) hp (typeOf b) (.ref D) := hb
  have M3 : Looks (model prog w) hp (fillsNumberSlot (.ref C) nm') true := fills_K X hcd1 hm hs
  have M4 : Looks (model prog w) hp (fillsNumberSlot (.ref D) nm') true := fills_K X hcd2 hm2 hsD
  have M5 : Looks (model prog w) hp (isSubtype (.ref D) (.ref C)) true := looks_subIn X hsub
  have M6 : Looks (model prog w) hp (numberSlotInPython (.ref C) nm') true := ksp_inPy X hs hrC (.inl rfl)
  have M7 : Looks (model prog w) hp (numberSlotInPython (.ref D) nm') true := ksp_inPy X hsD hrD (.inl rfl)
  have hne : (Value.ref C == Value.ref D) = false := Bool.eq_false_iff.mpr fun q => by cases beq_iff_eq.mp q; exact hCD rfl
  simp only [binaryOp, hi]
  refine wpAny_holding (wpAny_bind ?_)
  unfold binaryOp1
  refine wpAny_bind (M1.at (wpAny_bind (M2.at (wpAny_bind (M3.at ?_)))))
  simp only [hne, Bool.false_eq_true, if_false]
  refine wpAny_bind (M4.at ?_)
  simp only [Bool.and_self, if_true]
  refine wpAny_bind (M5.at ?_)
  simp only [if_true]
  unfold reflectedDiffers
  refine wpAny_bind (wpAny_bind (M6.at ?_))
  simp only [Bool.not_true, Bool.false_eq_true, if_false]
  refine wpAny_bind (M7.at ?_)
  simp only [Bool.not_true, Bool.false_eq_true, if_false]
  refine wpAny_bind (wpAny_mkStr ?_ hfit2)
  refine wpAny_bind (cls_miss (s := ⟨hp, g, d, _, os⟩) X ho hty h1 hrD hga hgg hcd hcn hs8 hfit hh fun h' tk keep => ?_)
  have N6 : Looks (model prog w) h' (numberSlotInPython (.ref C) nm') true := M6.keeps keep
  have N7 : Looks (model prog w) h' (numberSlotInPython (.ref D) nm') true := M7.keeps keep
  have one := ksp_try (s := ⟨h', g, d, tk, os⟩) (X.keeps keep) (inst_keep I keep) hs hf (h h' tk keep)
  refine wpAny_pure ?_
  simp only [Bool.false_eq_true, if_false]
  refine wpAny_bind ?_
  simp only [Bool.not_false, Bool.and_self, if_true]
  refine N6.at ?_
  simp only [if_true]
  refine wpAny_bind (N7.at ?_)
  simp only [Bool.not_true, Bool.false_eq_true, if_false]
  refine wpAny_bind (wpAny_mono one (fun r s' hr' => ?_) fun _ _ e => e)
  obtain ⟨v, rfl, hq⟩ := hr'
  exact wpAny_pure (wpAny_pure hq)
end

section
variable {prog : Program} {w : World} {A : Around} {E : Value → Shared → Prop} {s : Shared} {x : Addr}
theorem plain_bool_new : plainId "bool.__new__" = true := by decide +kernel
theorem owner_bool_new : ("bool.__new__".splitOn ".__new__").headD "" = "bool" := by simp +decide [String.splitOn, String.splitOnAux]
theorem code_bool_new {Q₁ : Value → Shared → Prop} (h : wpAny (model prog w) A.in1 (truthy (.ref x)) (fun b s' => Q₁ (.bool b) s') E s) :
    codeAny (model prog w) A (.call (.builtin "bool.__new__") ⟨[.type "bool", .ref x], []⟩) (wants Q₁ E) s := by
  refine codeAny_of_tree ?_
  show wpAny _ A.in1 (do checkBuiltinCall "bool.__new__" ⟨[.type "bool", .ref x], []⟩; again (.builtin "bool.__new__" ⟨[.type "bool", .ref x], []⟩)) _ _ s
  refine wpAny_bind (wpAny_of_eq (F.newCall_bool_1 _) (wpAny_pure ⟨plainId_quiet plain_bool_new _, codeAny_builtin F.entry_bool_new ?_⟩))
  rw [Around.under_plainId plain_bool_new _]
  have hsub := F.conv_sub_bool
  have hown := owner_bool_new
  obtain ⟨hp, g, d, tk, os⟩ := s
  unfold Builtin.«bool.__new__»
  refine wpAny_bind (m := isType _) (wpAny_pure ?_)
  simp only [Bool.not_true, Bool.false_eq_true, if_false]
  refine wpAny_bind ?_
  rw [hsub]
  refine wpAny_pure ?_
  simp only [Bool.not_true, Bool.false_eq_true, if_false]
  refine wpAny_bind (m := someArgs _ _ _ _) (wpAny_of_eq (a := [Value.ref x]) (by first | rfl | kernel_rfl!) ?_)
  exact wpAny_bind (wpAny_mono h (fun b s' z => wpAny_pure z) fun _ _ z => z)
theorem call_bool_inst {Q : Value → Shared → Prop} (h : wpAny (model prog w) A.in1.in1 (truthy (.ref x)) (fun b s' => Q (.bool b) s') E s) : wpAny (model prog w) A (call (.type "bool") [.ref x]) Q E s := by
  refine callType_codes (Q₁ := fun obj s' => ∃ b, obj = .bool b ∧ Q (.bool b) s') F.called_bool (F.typeCall_bool_1 _) F.entry_object_init (code_bool_new (wpAny_mono h (fun b s' z => ⟨b, rfl, z⟩) fun _ _ z => z)) fun obj s₁ ⟨b, eb, q⟩ => ?_
  subst eb
  have hT : s₁.TypeIs (.bool b) "bool" := rfl
  exact ⟨hT, F.args_object_init_2 _ _, object_init_meets F.called_bool.init.lookup F.called_bool.made F.newNe_bool prog w A.in1 _ s₁ (⟨hT, rfl, q⟩)⟩
end

/-- what the text has of two classes, for an operator with an instance of each -/
structure SubC (K : PySem.W.Frag) (D : Addr) (r : Str) (nm : Str) (cd : ClassData) : Prop where
  ho : PySem.W.nsIn K cStatics "thirdparty.any" = some none
  hty : PySem.W.typeIn K (.ref D) = some (.type "type")
  h1 : PySem.W.findIn K (.type "type") r = some none
  hga : PySem.W.findIn K (.type "type") "__getattribute__" = some (some (.builtin "type.__getattribute__"))
  hgg : PySem.W.findIn K (.type "type") "__getattr__" = some none
  hcd : PySem.W.clsIn K D = some cd
  hcn : cd.name = nm
  hs8 : nm.cps.foldl (fun k c => k + (Str.utf8Of c).length) 0 ≤ 100
  hfit : (((s!"type object '{nm.toString}' has no attribute '" : String) : Str) ++ r ++ ("'" : Str)).length ≤ sizeLine
  hfit2 : r.length ≤ sizeLine
inductive BinK (K : PySem.W.Frag) (C D : Addr) (op : Operator) : Prop where
  | same (e : C = D) (c : PySem.W.selfFirst K C = true)
  | mixed (n : C ≠ D) (c : BinC K C op.info.2) (d : BinC K D op.info.2) (s : PySem.W.subIn K (.ref D) (.ref C) = some false)
  | sub (n : C ≠ D) (c : BinC K C op.info.2) (d : BinC K D op.info.2) (s : PySem.W.subIn K (.ref D) (.ref C) = some true) (nm : Str) (cd : ClassData) (z : SubC K D (dunderR op.info.2) nm cd)
theorem rel_back {v : V} {u : Value} {Q : Value → Shared → Prop} {s : Shared} (r : RelV v u) (q : Q u s) : PySem.W.CmpBack Q u s := by
  cases v with
  | non => cases (show u = Value.none from r); exact q
  | bl b => cases (show u = Value.bool b from r); exact q
  | int i => obtain ⟨t, rfl⟩ := (show ∃ t, u = Value.int i t from r); exact q
  | str x => obtain ⟨t, rfl⟩ := (show ∃ t, u = Value.str x t from r); exact q
  | byt b => obtain ⟨t, rfl⟩ := (show ∃ t, u = Value.bytes b t from r); exact q
  | flt b => obtain ⟨t, rfl⟩ := (show ∃ t, u = Value.float b t from r); exact q
  | ref a => cases (show u = Value.ref a from r); exact q
  | ty n => cases (show u = Value.type n from r); exact q
section
variable {X : Cx} {CX : CXT} {k : Nat} {IsV : Addr → Prop} {sp : Sp} {E : XK} {m : Str} {ta tb : TE} {t : TA} {o e a b : Expr} {es : List Expr} {pos apos : Pos}
/-- x op y, both of classes of a family -/
def rBinV (IsV : Addr → Prop) (sp : Sp) (E : XK) : R2 := fun x y H Q => ∃ a b C D dx dy fs gs, x = .ref a ∧ y = .ref b ∧ IsV C ∧ IsV D ∧ H a = some (.ins C dx fs) ∧ H b = some (.ins D dy gs) ∧ sp [.ref a, .ref b] H Q E
theorem op_binV {op : Operator} (hn : PySem.dunder op.info.2 = m) (h : ∀ C, IsV C → HasM X.prog X.w X.K X.mg X.base CX C m k ["self", "other"] sp) (bk : ∀ C D, IsV C → IsV D → BinK X.K C D op) (g : Gd X.A) (hr : Room k X.A) (hx : Passes CX X E) :
    OpR X (binaryOp op) (rBinV IsV sp E) := by
  intro pins s σ H x y v u Q I rx ry hq
  obtain ⟨a, b, C, D, dx, dy, fs, gs, rfl, rfl, vC, vD, ha, hb, q⟩ := hq
  cases (show v = Value.ref a from rx)
  cases (show u = Value.ref b from ry)
  obtain ⟨f, fd, F, M, bi⟩ := (h C vC).ex
  obtain ⟨_, O1, _⟩ := ins_get I.hok ha
  obtain ⟨_, O2, _⟩ := ins_get I.hok hb
  obtain ⟨od, J, _⟩ := O1.look
  obtain ⟨od2, J2, _⟩ := O2.look
  obtain ⟨m', fr⟩ := I.fr
  have tb : PySem.W.Looks (model X.prog X.w) s.heap (typeOf (.ref b)) (.ref D) := J2.type
  have at_ : PySem.W.findIn X.K (.ref C) (PySem.dunder op.info.2) = some (some (.ref f)) := by rw [hn]; exact M.at_
  have run : ∀ h' tk, (∀ b o, s.heap.get? b = some o → h'.get? b = some o) → wpAny (model X.prog X.w) X.A (call (.ref f) [.ref a, .ref b]) (PySem.W.CmpBack (EP X pins σ Q)) X.xe { s with heap := h', toks := tk } := by
    intro h' tk keep
    have I2 : Inv X pins σ H { s with heap := h', toks := tk } := I.kept keep
    have b1 := bi { s with heap := h', toks := tk } [.ref a, .ref b] I2.kIn rfl
    rw [List.append_nil] at b1
    apply wpAny_call
    refine codeAny_mono (F.go g hr I2.env0 b1 (vs := [.ref a, .ref b]) (.cons rfl (.cons rfl .nil)) q) (fun res s' z => ?_)
    match res, z with
    | .error _, z => exact hx pins σ H _ _ s' I2 z
    | .ok (.ret _), z =>
      obtain ⟨v, H', I', rv, q2⟩ := I2.after z
      exact rel_back rv ⟨v, H', I', rv, q2⟩
  cases bk C D vC vD with
  | same e c =>
    subst e
    exact PySem.W.binop_K fr I.mod.kin J tb c at_ M.fn (run s.heap s.toks (fun _ _ e => e))
  | mixed n c d sb => exact bin_mixed fr I.mod.kin J tb n c d at_ M.fn sb (run s.heap s.toks (fun _ _ e => e))
  | sub n c d sb nm cd z => exact bin_sub fr I.mod.kin J tb n c d at_ M.fn sb z.ho z.hty z.h1 z.hga z.hgg z.hcd z.hcn z.hs8 z.hfit z.hfit2 hr.hd run
/-- o.m(args), o of a class of the family -/
def tMethV (IsV : Addr → Prop) (m : Str) (sp : Sp) (E : XK) (ta : TE) (t : TA) : TE := fun σ H Q => ta σ H fun x H1 => ∃ a C dx fs, x = .ref a ∧ IsV C ∧ H1 a = some (.ins C dx fs) ∧ fs.lookup m = none ∧ t σ H1 fun vs H2 => sp (.ref a :: vs) H2 Q E
theorem pe_methV {pl : Sem Bool} (he : PE X o ta) (c : ∀ C, IsV C → Cls X.K C) (h : ∀ C, IsV C → ∃ ps, HasM X.prog X.w X.K X.mg X.base CX C m k ps sp) (g : Gd X.A) (hr : Room k X.A) (hx : Passes CX X E) (ha : PA X (e :: es) t)
    (hst : starEach (e :: es) X.env = (false, eval e X.env) :: starEach es X.env := by rfl) (hpl : (backTo pos (starEach es X.env)).any (·.1) = false := by rfl)
    (ht : eval (.Call (.Attribute o m apos) (e :: es) [] pos) X.env = ((eval o X.env).bind fun ov => (standAt apos.atName).bind fun _ => (holding [ov] (getMethod ov m pl)).bind fun fm =>
      callWith pos fm.1 fm.2 (backTo pos (starEach (e :: es) X.env)) (backToKw pos (keywordEach [] X.env))) := by rfl) :
    PE X (.Call (.Attribute o m apos) (e :: es) [] pos) (tMethV IsV m sp E ta t) := by
  constructor
  intro pins s σ H Q I q
  refine PySem.W.methodCall_KW (pl := pl) (thn (he.run pins s σ H _ I q) (fun u s1 z => ?_)) ht
  obtain ⟨x, H1, I1, rx, a, C, dx, fs, ex, vC, ea, l, q1⟩ := z
  subst ex
  obtain ⟨ps, hC⟩ := h C vC
  obtain ⟨f, fd, F, M, b⟩ := hC.ex
  cases (show u = Value.ref a from rx)
  apply getmeth_ok I1 ea (c C vC) M l
  refine PySem.W.callWith_K (first := [.ref a]) (h₀ := X.base) I.ok.mod.kin M.kp (thn (ha.run pos pins s1 σ H1 _ I1 q1) (fun us s2 z => ?_)) hst hpl
  obtain ⟨vs, H2, I2, r, q2⟩ := z
  exact ⟨I2.kIn, goes (us := .ref a :: us) (vs := .ref a :: vs) F g hr b hx I2 (.cons rfl r) q2⟩
theorem pe_methV0 {pl : Sem Bool} (he : PE X o ta) (c : ∀ C, IsV C → Cls X.K C) (h : ∀ C, IsV C → ∃ ps, HasM X.prog X.w X.K X.mg X.base CX C m k ps sp) (g : Gd X.A) (hr : Room k X.A) (hx : Passes CX X E)
    (ht : eval (.Call (.Attribute o m apos) [] [] pos) X.env = ((eval o X.env).bind fun ov => (standAt apos.atName).bind fun _ => (holding [ov] (getMethod ov m pl)).bind fun fm =>
      callWith pos fm.1 fm.2 (backTo pos (starEach [] X.env)) (backToKw pos (keywordEach [] X.env))) := by rfl) :
    PE X (.Call (.Attribute o m apos) [] [] pos) (tMethV IsV m sp E ta tNil) := by
  constructor
  intro pins s σ H Q I q
  refine PySem.W.methodCall_KW (pl := pl) (thn (he.run pins s σ H _ I q) (fun u s1 z => ?_)) ht
  obtain ⟨x, H1, I1, rx, a, C, dx, fs, ex, vC, ea, l, q1⟩ := z
  subst ex
  obtain ⟨ps, hC⟩ := h C vC
  obtain ⟨f, fd, F, M, b⟩ := hC.ex
  cases (show u = Value.ref a from rx)
  apply getmeth_ok I1 ea (c C vC) M l
  exact PySem.W.callWith_K0 (first := [.ref a]) I1.kIn M.kp (goes (us := [.ref a]) (vs := [.ref a]) F g hr b hx I1 (.cons rfl .nil) q1)
/-- x == y, x != y: x of a class of the family, y of no class below it -/
def rEqV (K : PySem.W.Frag) (IsV : Addr → Prop) (sp : Sp) (E : XK) (neg : Bool) : R2 := fun x y H Q => ∃ a C dx fs t, x = .ref a ∧ IsV C ∧ H a = some (.ins C dx fs) ∧ TyX K H y t ∧ PySem.W.notFirst K C t = true ∧
  sp [.ref a, y] H (fun v H' => ∃ r, v = .bl r ∧ Q (.bl (neg != r)) H') E
theorem op_eqV (h : ∀ C, IsV C → HasM X.prog X.w X.K X.mg X.base CX C "__eq__" k ["self", "other"] sp) (g : Gd X.A) (hr : Room k X.A) (hx : Passes CX X E) : OpR X (compareOp .Eq) (rEqV X.K IsV sp E false) := by
  intro pins s σ H x y v u Q I rx ry hq
  obtain ⟨a, C, dx, fs, t, rfl, vC, ha, ty, nf, q⟩ := hq
  exact op_eqA (h C vC) g hr hx pins s σ H _ y v u Q I rx ry ⟨a, dx, fs, t, rfl, ha, ty, nf, q⟩
theorem op_neV (h : ∀ C, IsV C → HasM X.prog X.w X.K X.mg X.base CX C "__eq__" k ["self", "other"] sp) (e : ∀ C, IsV C → EqC X.K C) (g : Gd X.A) (hr : Room (k + 1) X.A) (hx : Passes CX X E) : OpR X (compareOp .NotEq) (rEqV X.K IsV sp E true) := by
  intro pins s σ H x y v u Q I rx ry hq
  obtain ⟨a, C, dx, fs, t, rfl, vC, ha, ty, nf, q⟩ := hq
  exact op_neA (h C vC) (e C vC) g hr hx pins s σ H _ y v u Q I rx ry ⟨a, dx, fs, t, rfl, ha, ty, nf, q⟩
/-- an instance of the family, alone -/
def rOneV (IsV : Addr → Prop) (sp : Sp) (E : XK) : List V → Hp → VK → Prop := fun xs H Q => ∃ a C dx fs, xs = [.ref a] ∧ IsV C ∧ H a = some (.ins C dx fs) ∧ sp [.ref a] H Q E
theorem call_strV (h : ∀ C, IsV C → HasM X.prog X.w X.K X.mg X.base CX C "__str__" k ["self"] sp) (g : Gd X.A) (hr : Room (k + 2) X.A) (hx : Passes CX X E) :
    CallR X (.type "str") (fun xs H Q => rOneV IsV sp E xs H fun v H' => ∃ y, v = .str y ∧ Q (.str y) H') := by
  intro pins s σ H xs us Q I r q
  obtain ⟨a, C, dx, fs, rfl, vC, ea, q1⟩ := q
  exact call_strM (h C vC) g hr hx pins s σ H _ us Q I r ⟨a, dx, fs, rfl, ea, q1⟩
theorem call_boolV (h : ∀ C, IsV C → HasM X.prog X.w X.K X.mg X.base CX C "__bool__" k ["self"] sp) (g : Gd X.A) (hr : Room (k + 2) X.A) (hx : Passes CX X E) :
    CallR X (.type "bool") (fun xs H Q => rOneV IsV sp E xs H fun v H' => ∃ y, v = .bl y ∧ Q (.bl y) H') := by
  intro pins s σ H xs us Q I r q
  obtain ⟨a, C, dx, fs, rfl, vC, ea, q1⟩ := q
  obtain ⟨f, fd, F, M, b⟩ := (h C vC).ex
  obtain ⟨u, rfl, ru⟩ := vals1 r
  cases (show u = Value.ref a from ru)
  obtain ⟨mA, O, _⟩ := ins_get I.hok ea
  obtain ⟨od, J, _⟩ := O.look
  have b1 := b s [.ref a] I.kIn rfl
  rw [List.append_nil] at b1
  obtain ⟨m', fr⟩ := I.fr
  refine call_bool_inst ?_
  refine PySem.W.truthy_K fr I.mod.kin J M.at_ M.fn ?_
  apply wpAny_call
  refine codeAny_mono (F.go (A := X.A.in1.in1) g hr.in1.in1 I.env0.in1.in1 b1 (vs := [.ref a]) (.cons rfl .nil) q1) (fun res s' z => ?_)
  match res, z with
  | .error _, z => exact hx pins σ H s _ s' I z
  | .ok (.ret _), z =>
    obtain ⟨v, H', I', rv, y, rfl, q2⟩ := I.after z
    cases (show _ = Value.bool y from rv)
    exact ⟨.bl y, H', I', rfl, q2⟩
theorem un_negV (h : ∀ C, IsV C → HasM X.prog X.w X.K X.mg X.base CX C "__neg__" k ["self"] sp) (g : Gd X.A) (hr : Room k X.A) (hx : Passes CX X E) : UnR X (unaryOp .USub) (fun x H Q => rOneV IsV sp E [x] H Q) := by
  intro pins s σ H x v Q I rx q
  obtain ⟨a, C, dx, fs, ex, vC, ea, q1⟩ := q
  cases ex
  cases (show v = Value.ref a from rx)
  obtain ⟨f, fd, F, M, b⟩ := (h C vC).ex
  obtain ⟨mA, O, _⟩ := ins_get I.hok ea
  obtain ⟨od, J, _⟩ := O.look
  have b1 := b s [.ref a] I.kIn rfl
  rw [List.append_nil] at b1
  obtain ⟨m', fr⟩ := I.fr
  refine PySem.W.ksp_neg fr I.mod.kin J M.at_ M.fn ?_
  apply wpAny_call
  refine codeAny_mono (F.go g hr I.env0 b1 (vs := [.ref a]) (.cons rfl .nil) q1) (fun res s' z => ?_)
  match res, z with
  | .error _, z => exact hx pins σ H s _ s' I z
  | .ok (.ret _), z => exact I.after z
/-- x[i], x of a class of the family with its own __getitem__ -/
theorem pe_ixV (h : ∀ C, IsV C → HasM X.prog X.w X.K X.mg X.base CX C "__getitem__" k ["self", "index"] sp) (g : Gd X.A) (hr : Room (k + 1) X.A) (hx : Passes CX X E) (ha : PE X a ta) (hb : PE X b tb)
    (hfn : ∀ C f, IsV C → PySem.W.findIn X.K (.ref C) "__getitem__" = some (some (.ref f)) → PySem.W.fnIn X.K f = true)
    (hs : ∀ x i, subscripted b true (.ref x) i = runValue (.builtin "lifetime.subscript" ⟨[.ref x, i], []⟩) := by exact fun _ _ => rfl) :
    PE X (.Subscript a b pos) (tOp (fun x y H Q => ∃ p C dx fs, x = .ref p ∧ IsV C ∧ H p = some (.ins C dx fs) ∧ sp [.ref p, y] H Q E) ta tb) := by
  refine ⟨fun pins s σ H Q I q => ?_⟩
  refine Subscript_ (binT ha hb I q fun v u s2 x y H2 I2 rx ry q => ?_)
  obtain ⟨p, C, dx, fs, ex, vC, ea, q1⟩ := q
  subst ex
  cases (show v = Value.ref p from rx)
  obtain ⟨f, fd, F, M, b⟩ := (h C vC).ex
  obtain ⟨mA, O, _⟩ := ins_get I2.hok ea
  obtain ⟨od, J, _⟩ := O.look
  have b1 := b s2 [.ref p, u] I2.kIn rfl
  rw [List.append_nil] at b1
  obtain ⟨m', fr⟩ := I2.fr
  refine PySem.W.sub_K fr I2.mod.kin J M.at_ (hfn C f vC M.at_) M.fn ?_ (hs _ _)
  apply wpAny_call
  refine codeAny_mono (F.go (A := X.A.in1) g hr.in1 I2.env0.in1 b1 (vs := [.ref p, y]) (.cons rfl (.cons ry .nil)) q1) (fun res s' z => ?_)
  match res, z with
  | .error _, z => exact hx pins σ H2 s2 _ s' I2 z
  | .ok (.ret _), z => exact I2.after z
end
end GL
/-! repr of data of any form without dicts, its ints of up to 4300 digits -/
namespace GL
open PySem PySem.Spec PyProof.Rows L2
mutual
def okD : PyData → Bool
  | .int i => decide (i.natAbs < 10 ^ 4300)
  | .list xs => okAll xs
  | .tuple xs => okAll xs
  | .dict _ => false
  | _ => true
def okAll : List PyData → Bool
  | [] => true
  | d :: r => okD d && okAll r
end
section
variable {prog : Program} {w : World} {h₀ : Heap}
mutual
theorem rep_of (nd : h₀.NoDigits) : ∀ {v : Value} {d : PyData} {as : List Addr}, Reads h₀ v d as → okD d = true → d.shown.length ≤ sizeLine → ∃ bs, ReadAtMost h₀ d.depth bs ∧ ReprK prog w bs h₀ d.depth v d.shown
  | _, _, _, .none, _, _ => ⟨[], (fun _ z => nomatch z), by simp only [PyData.shown]; exact ReprK.of_is ReprIs.none _ _ _⟩
  | _, _, _, .bool b, _, _ => ⟨[], (fun _ z => nomatch z), by simp only [PyData.shown]; exact ReprK.of_is (ReprIs.bool b) _ _ _⟩
  | _, _, _, .int i t, ok, _ => ⟨[], (fun _ z => nomatch z), by simp only [PyData.shown]; exact big_leaf nd t (show i.natAbs < 10 ^ 4300 from of_decide_eq_true (by simpa only [okD] using ok)) [] _⟩
  | _, _, _, .str x t, _, sz => ⟨[], (fun _ z => nomatch z), by simp only [PyData.shown]; exact ReprK.of_is (ReprIs.str x t (by simpa only [PyData.shown] using sz)) _ _ _⟩
  | _, _, _, .list (a := a) (vs := vs) (xs := xs) p1 p2 p3 p4, ok, sz => by
    have sz2 : (listText (PyData.shownAll xs)).length ≤ sizeLine := by simpa only [PyData.shown] using sz
    obtain ⟨bs, few, all⟩ := rep_all nd p4 (by simpa only [okD] using ok) (fun t m => Nat.le_trans (listText_mem_le m) sz2)
    have rd := Reads.list p1 p2 p3 p4
    have out : a ∉ bs := not_mem_of_deeper rd (by simp only [PyData.depth]; omega) few
    refine ⟨a :: bs, ReadAtMost.cons rd (by simp only [PyData.depth]; omega) few, ?_⟩
    simp only [PyData.depth, PyData.shown]
    obtain ⟨l⟩ := vs
    cases l with
    | nil =>
      have p5 : ReadsAll h₀ [] xs _ := p4
      cases p5
      simp only [PyData.shownAll, listText_nil]
      exact .listEmpty p1 p2 p3
    | cons x l => exact .list p1 p2 p3 out (by simpa using all.length_eq) (fun i y e => all.item i y (by simpa using e))
  | _, _, _, .tuple (a := a) (xs := xs) p1 p2 p3 p4, ok, sz => by
    have sz2 : (tupleText (PyData.shownAll xs)).length ≤ sizeLine := by simpa only [PyData.shown] using sz
    obtain ⟨bs, few, all⟩ := rep_all nd p4 (by simpa only [okD] using ok) (fun t m => Nat.le_trans (tupleText_mem_le m) sz2)
    have rd := Reads.tuple p1 p2 p3 p4
    have out : a ∉ bs := not_mem_of_deeper rd (by simp only [PyData.depth]; omega) few
    refine ⟨a :: bs, ReadAtMost.cons rd (by simp only [PyData.depth]; omega) few, ?_⟩
    simp only [PyData.depth, PyData.shown]
    exact .tuple p1 p2 p3 out all
  | _, _, _, .dict .., ok, _ => by simp only [okD] at ok; cases ok
theorem rep_all (nd : h₀.NoDigits) : ∀ {vs : List Value} {ds : List PyData} {as : List Addr}, ReadsAll h₀ vs ds as → okAll ds = true → (∀ t ∈ PyData.shownAll ds, t.length ≤ sizeLine) → ∃ bs, ReadAtMost h₀ (PyData.depthAll ds) bs ∧ ReprAllK prog w bs h₀ (PyData.depthAll ds) vs (PyData.shownAll ds)
  | _, _, _, .nil, _, _ => ⟨[], (fun _ z => nomatch z), by simp only [PyData.shownAll]; exact .nil⟩
  | _, _, _, .cons (d := d) (ds := ds) r rs, ok, sz => by
    have ok2 : okD d = true ∧ okAll ds = true := by simpa [okAll] using ok
    obtain ⟨b1, f1, k1⟩ := rep_of nd r ok2.1 (sz _ (by simp only [PyData.shownAll]; exact List.mem_cons_self ..))
    obtain ⟨b2, f2, k2⟩ := rep_all nd rs ok2.2 (fun t m => sz t (by simp only [PyData.shownAll]; exact List.mem_cons_of_mem _ m))
    refine ⟨b1 ++ b2, (f1.mono (by simp only [PyData.depthAll]; omega)).append (f2.mono (by simp only [PyData.depthAll]; omega)), ?_⟩
    simp only [PyData.depthAll, PyData.shownAll]
    exact .cons ((k1.more fun b m => List.mem_append_left _ m).level_le (by omega)) (k2.more_le (fun b m => List.mem_append_right _ m) (by omega))
end
theorem repr_any {A : Around} {E : Value → Shared → Prop} {s : Shared} {Q : Value → Shared → Prop} {a : Addr} {d : PyData} {as : List Addr} (nd : s.heap.NoDigits) (r : Reads s.heap (.ref a) d as) (ok : okD d = true) (sz : d.shown.length ≤ sizeLine)
    (hg : A.guards = some []) (hu : A.units + (d.depth + 3) < cLine) (hQ : ∀ h' u tk, (∀ b o, s.heap.get? b = some o → h'.get? b = some o) → Q (.str d.shown u) { s with heap := h', toks := tk }) : wpAny (model prog w) A (call (.builtin "repr") [.ref a]) Q E s := by
  cases r with
  | list p1 p2 p3 p4 =>
    rename_i o vs n xs bs₀
    have sz2 : (listText (PyData.shownAll xs)).length ≤ sizeLine := by simpa only [PyData.shown] using sz
    obtain ⟨cs, few, all⟩ := rep_all (prog := prog) (w := w) nd p4 (by simpa only [okD] using ok) (fun t m => Nat.le_trans (listText_mem_le m) sz2)
    have rd := Reads.list p1 p2 p3 p4
    have out : a ∉ cs := not_mem_of_deeper rd (by simp only [PyData.depth]; omega) few
    simp only [PyData.depth] at hu
    simp only [PyData.shown] at hQ
    obtain ⟨l⟩ := vs
    cases l with
    | nil =>
      have p5 : ReadsAll s.heap [] xs _ := p4
      cases p5
      exact repr_of_reads' (.list p1 p2 p3 .nil) (by decide +kernel) (fun z => absurd z (by decide +kernel)) hg (by show A.units + 2 < cLine; omega) (fun _ _ e => e) (fun h' u tk hk => by simpa only [PyData.shown, PyData.shownAll] using hQ h' u tk hk) (by simpa only [PyData.shown] using sz2)
    | cons x l =>
      refine call_repr_slot (by omega) (T := "list") (idr := "list.__repr__") ⟨o, p1, p2⟩ F.slot_list_repr.toG ?_
      exact call_list_reprK p1 p2 p3 out (by simpa using all.length_eq) (fun i y e => all.item i y (by simpa using e)) hg (fun b _ => Clear.nil b) (by show A.units + 1 + (PyData.depthAll xs + 1) < cLine; omega) (fun _ _ e => e) (fun h' u tk hk => ⟨_, _, rfl, hQ h' u tk hk⟩) sz2
  | @tuple _ o vs n xs _ p1 p2 p3 p4 =>
    have sz2 : (tupleText (PyData.shownAll xs)).length ≤ sizeLine := by simpa only [PyData.shown] using sz
    obtain ⟨cs, few, all⟩ := rep_all (prog := prog) (w := w) nd p4 (by simpa only [okD] using ok) (fun t m => Nat.le_trans (tupleText_mem_le m) sz2)
    have rd := Reads.tuple p1 p2 p3 p4
    have out : a ∉ cs := not_mem_of_deeper rd (by simp only [PyData.depth]; omega) few
    simp only [PyData.depth] at hu
    simp only [PyData.shown] at hQ
    refine call_repr_slot (by omega) (T := "tuple") (idr := "tuple.__repr__") ⟨o, p1, p2⟩ F.slot_tuple_repr ?_
    exact call_tuple_reprK p1 p2 p3 out all hg (fun b _ => Clear.nil b) (by show A.units + 1 + (PyData.depthAll xs + 1) < cLine; omega) (fun _ _ e => e) (fun h' u tk hk => ⟨_, _, rfl, hQ h' u tk hk⟩) sz2
  | dict p1 p2 p3 p4 p5 => simp only [okD] at ok; cases ok
end
def rReprB (K : PySem.W.Frag) : List V → Hp → VK → Prop := fun xs H Q => ∃ a d, xs = [.ref a] ∧ Dp K H (.ref a) d ∧ okD d = true ∧ d.depth ≤ 20 ∧ d.shown.length ≤ sizeLine ∧ Q (.str d.shown) H
theorem call_reprB {X : Cx} (dig : PySem.W.nsIn X.K cStatics "sys.int_max_str_digits" = some none) (hg : Gd X.A) (hu : X.A.units + 64 < cLine) : CallR X (.builtin "repr") (rReprB X.K) := by
  intro pins s σ H xs us Q I r h
  obtain ⟨a, d, rfl, hd, ok, dp, sz, q⟩ := h
  obtain ⟨u, rfl, r1⟩ := vals1 r
  cases (show u = Value.ref a from r1)
  obtain ⟨as, hr⟩ := Dp.reads I d (.ref a) (.ref a) hd rfl
  exact repr_any (big_base dig I) hr ok sz hg (by omega) (fun h' u tk hk => ⟨.str _, H, I.kept hk, ⟨_, rfl⟩, q⟩)
end GL
/-! vectors -/
namespace GL
open PySem PySem.Spec PyProof.Rows L2
/-! ### a class that is called, its __init__ calling defs -/
structure HasG (P : Program) (w : World) (K : PySem.W.Frag) (mg : Str → Option Value) (base : Heap) (x : Str) (C : Addr) (k : Nat) (ps : List Str) (sp : Sp) : Prop where
  ex : ∃ f fd, FnG P w K mg base CX0 k f fd ps sp ∧ mg x = some (.ref C) ∧ Mk K C f ∧ Binds K fd ps []
section
variable {X : Cx} {CX : CXT} {k : Nat} {f C : Addr} {fd : FuncData} {ps : List Str} {sp : Sp} {E : XK} {x : Str} {p pos : Pos} {e : Expr} {es : List Expr} {t : TA}
theorem run_makeG {pins : List (Addr × Obj)} {σ : L2.St} {H : Hp} {s : Shared} {Q : VK} {us : List Value} {vs : List V} (M : Mk X.K C f) (F : FnG X.prog X.w X.K X.mg X.base CX k f fd ps sp) (g : Gd X.A) (hr : Room (k + 1) X.A) (hb : Binds X.K fd ps [])
    (hx : Passes CX X E) (I : Inv X pins σ H s) (r : Vals vs us) (h : ∀ a dx, H a = none → H dx = none → dx ≠ a → sp (.ref a :: (vs ++ [])) (upd (upd H dx (.own a)) a (.ins C dx [])) (fun v H2 => v = .non ∧ Q (.ref a) H2) E) :
    wpAny (model X.prog X.w) X.A (call (.ref C) us) (EP X pins σ Q) X.xe s := by
  have q := h (s.heap.objs.size + 1) s.heap.objs.size (I.hok.fresh (Nat.le_succ _)) (I.hok.fresh (Nat.le_refl _)) (Nat.ne_of_lt (Nat.lt_succ_self _))
  rw [List.append_nil] at q
  have J := Inv.made (C := C) I
  have rr : Vals (V.ref (s.heap.objs.size + 1) :: vs) (Value.ref (s.heap.objs.size + 1) :: us) := .cons rfl r
  have nl : (Value.ref (s.heap.objs.size + 1) :: us ++ []).length = ps.length := by
    rw [List.append_nil, ← rr.length]
    exact F.len _ _ _ _ q
  have b1 := hb _ (Value.ref (s.heap.objs.size + 1) :: us) J.kIn nl
  rw [List.append_nil] at b1
  refine wpAny_call (make_map (f := f) I.kIn M.makes M.init (beq_iff_eq.mp M.fn) (codeAny_mono (F.go (by exact g) (hr.make C us []) (J.env0.make C us []) b1 rr q) fun res s' z => ?_))
  match res, z with
  | .error e, z => exact hx pins σ _ _ e s' J z
  | .ok (.ret u), z =>
    obtain ⟨v, H', I3, rv, ev, q3⟩ := J.after z
    subst ev
    exact ⟨rv, V.ref (s.heap.objs.size + 1), H', I3, rfl, q3⟩
theorem pe_makeG (h : HasG X.prog X.w X.K X.mg X.base x C k ps sp) (g : Gd X.A) (hr : Room (k + 1) X.A) (hx : Passes CX0 X E) (ha : PA X (e :: es) t) (hg : Gl X x := by exact rfl)
    (hdb : (x == ("__debug__" : Str)) = false := by decide) (he : starEach (e :: es) X.env = (false, eval e X.env) :: starEach es X.env := by rfl) (hpl : (backTo pos (starEach es X.env)).any (·.1) = false := by rfl) :
    PE X (.Call (.Name x p) (e :: es) [] pos) (tMake C sp [] E t) := by
  obtain ⟨f, fd, F, m, M, b⟩ := h.ex
  refine ⟨fun pins s σ H Q I q => ?_⟩
  refine wpAny_Call_Name_kw (ld_glob I hg m ?_ hdb)
  refine PySem.W.callWith_K (h₀ := X.base) I.ok.mod.kin M.kp (thn (ha.run pos pins s σ H _ I q) fun us s1 ⟨vs, H1, I1, r, q1⟩ => ?_) he hpl
  exact ⟨I1.kIn, run_makeG M F g hr b hx I1 r q1⟩
end
theorem Dc.hasG {P : Program} {w : World} {K : PySem.W.Frag} {mg : Str → Option Value} {base : Heap} {C : Addr} {x qual : Str} {st : Stmt} {N ps : List Str} {k : Nat} {sp : Sp} (D : Dc K C qual st) (m : mg x = some (.ref C)) (S : FnScope N ps (defScope st)) (len : ∀ vs H Q E, sp vs H Q E → vs.length = ps.length)
    (bi : ∀ (kV doc pm : Value) (an : Option Addr) (cdv ct : Value) (us : List Value), us.length = ps.length → bindArgs (PySem.W.fnOf "__init__" qual (defArgs st) (defBody st) (defScope st) .none kV doc pm an cdv ct) ⟨us, []⟩ = pure (ps.zip us))
    (body : ∀ (f : Addr) (cdv : Value) (A : Around) (outer : List Env) (s : Shared) (H : Hp) (vs : List V) (Q : VK) (E : XK), Gd (A.deeper (envOfC qual (defScope st) s.heap.objs.size f cdv)) → Room k (A.deeper (envOfC qual (defScope st) s.heap.objs.size f cdv)) → sp vs H Q E →
      ∃ t, PSs (cxOf CX0 P w K mg base N qual (defScope st) f cdv A outer s H E).nox (defBody st) t ∧ t { nx := fun _ H' => Q .non H', rt := Q } (start N vs) H) : HasG P w K mg base x C (k + 1) ps sp := by
  obtain ⟨f, fd, F, M⟩ := D.ex
  exact ⟨f, fd, F.g S len (body f), m, M, F.binds bi⟩
variable {K : PySem.W.Frag} {C CV CM D D' : Addr} {U : Bool → Addr} {us : Bool → List Addr} {t : Bool} {u z : Int × Int}
def IsV (CV CM : Addr) (C : Addr) : Prop := C = CV ∨ C = CM
def vF (g a : Addr) (n : Int) : List (Str × V) := [("grid", .ref g), ("point", .ref a), ("norm", .int n)]
/-- at v a vector of the class D, of the grid t, with the point u -/
def VecAt (K : PySem.W.Frag) (C : Addr) (U : Bool → Addr) (D : Addr) (H : Hp) (v : Addr) (t : Bool) (u : Int × Int) : Prop := ∃ dx g a, H v = some (.ins D dx (vF g a (nrm t u))) ∧ GridAt C U H g t ∧ PAt K H a u
theorem vF_grid {g a : Addr} {n : Int} : (vF g a n).lookup ("grid" : Str) = some (.ref g) := rfl
theorem vF_point {g a : Addr} {n : Int} : (vF g a n).lookup ("point" : Str) = some (.ref a) := rfl
theorem vF_norm {g a : Addr} {n : Int} : (vF g a n).lookup ("norm" : Str) = some (.int n) := rfl
theorem VecAt.same {H H' : Hp} {v : Addr} (h : VecAt K C U D H v t u) (s : Same H H') : VecAt K C U D H' v t u := let ⟨dx, g, a, e, hg, hp⟩ := h; ⟨dx, g, a, s _ _ e, hg.same s, hp.same s⟩
theorem VecAt.got {p : Addr} {H H' : Hp} {v : Addr} (h : VecAt K C U D H v t u) (s : Got p H H') (d : Die H p) : VecAt K C U D H' v t u := by
  obtain ⟨dx, g, a, e, hg, hp⟩ := h
  have gg := hg.got s d
  have pp := hp.got s d
  obtain ⟨_, _, _, _, e0⟩ := d
  exact ⟨dx, g, a, s.keep _ _ e (ne_of e e0 (by intro z; cases z)), gg, pp⟩
def psub (u v : Int × Int) : Int × Int := (u.1 - v.1, u.2 - v.2)
def pw (t : Bool) (u : Int × Int) : Nat → Int × Int
  | 0 => (1, 0)
  | n + 1 => mul t (pw t u n) u
theorem mul_one' : mul t (1, 0) u = u := by unfold mul sl; cases t <;> simp
theorem one_mul' : mul t u (1, 0) = u := by rw [mul_comm', mul_one']
theorem pw_add (m n : Nat) : mul t (pw t u m) (pw t u n) = pw t u (m + n) := by
  induction n with
  | zero => exact one_mul'
  | succ n ih => rw [pw, ← mul_assoc', ih]; rfl
structure VCls (K : PySem.W.Frag) (D : Addr) : Prop where
  cls : Cls K D
  grid : NoAttr K D "grid"
  point : NoAttr K D "point"
  norm : NoAttr K D "norm"
theorem log_of {x : Int} (h : x.natAbs < 10 ^ 400) : x.natAbs.log2 < 1920 := Nat.lt_of_lt_of_le (PySem.Flt.log2_lt_of (k := 1329) (by decide) (Nat.lt_of_lt_of_le h (by decide +kernel))) (by decide)
theorem sign_neg {n : Int} (h : n < 0) : (toString n : String) = "-" ++ toString (-n) := by
  obtain ⟨m, rfl⟩ : ∃ m : Nat, n = Int.negSucc m := ⟨(-n).toNat - 1, by omega⟩
  rfl
theorem ofS_append (a b : String) : Str.ofString (a ++ b) = Str.ofString a ++ Str.ofString b := by
  rw [Str.ofString_eq_toList, Str.ofString_eq_toList, Str.ofString_eq_toList]
  refine Str.ext' ?_
  rw [Str.cps_append]
  simp
theorem sign_of (n : Int) : (if n < 0 then Str.ofString "-" else Str.ofString "") ++ Str.ofString (toString (if n < 0 then -n else n)) = Str.ofString (toString n) := by
  by_cases h : n < 0
  · rw [if_pos h, if_pos h, sign_neg h, ofS_append]
  · rw [if_neg h, if_neg h]
    exact Str.empty_append _
/-! ### promises -/
def spVInit (K : PySem.W.Frag) (C : Addr) (U : Bool → Addr) (D : Addr) (ok : Int × Int → Prop) : Sp := fun vs H Q _ => ∃ p dx g a t u, vs = [.ref p, .ref g, .ref a] ∧ H p = some (.ins D dx []) ∧ GridAt C U H g t ∧ PAt K H a u ∧ ok u ∧
  ∀ H', (∀ b, b ≠ p → H' b = H b) → H' p = some (.ins D dx (vF g a (nrm t u))) → Q .non H'
/-- what hands out a new vector, at u' -/
def VNew (K : PySem.W.Frag) (C : Addr) (U : Bool → Addr) (D : Addr) (H : Hp) (t : Bool) (u : Int × Int) (Q : VK) : Prop := ∀ r H', H r = none → Same H H' → VecAt K C U D H' r t u → Q (.ref r) H'
def spVBin (K : PySem.W.Frag) (C : Addr) (U : Bool → Addr) (CV CM : Addr) (f : Bool → Int × Int → Int × Int → Int × Int) : Sp := fun vs H Q _ => ∃ v w D D' t u z, vs = [.ref v, .ref w] ∧ IsV CV CM D ∧ IsV CV CM D' ∧ VecAt K C U D H v t u ∧ VecAt K C U D' H w t z ∧ Sm u ∧ Sm z ∧ Sm (f t u z) ∧ VNew K C U CM H t (f t u z) Q
def spVDiv (K : PySem.W.Frag) (C : Addr) (U : Bool → Addr) (CV CM : Addr) : Sp := fun vs H Q _ => ∃ v w D D' t u z q, vs = [.ref v, .ref w] ∧ IsV CV CM D ∧ IsV CV CM D' ∧ VecAt K C U D H v t u ∧ VecAt K C U D' H w t z ∧ Sm u ∧ Sm z ∧ Sm q ∧ Sm (flip t z) ∧ Sm (low t u z) ∧ (nrm t z).natAbs < 2 ^ 2000 ∧ 0 < nrm t z ∧ mul t q z = u ∧ VNew K C U CM H t q Q
def spVUn (K : PySem.W.Frag) (C : Addr) (U : Bool → Addr) (CV CM : Addr) (f : Bool → Int × Int → Int × Int) : Sp := fun vs H Q _ => ∃ v D t u, vs = [.ref v] ∧ IsV CV CM D ∧ VecAt K C U D H v t u ∧ Sm u ∧ Sm (f t u) ∧ VNew K C U CM H t (f t u) Q
def spVTurn (K : PySem.W.Frag) (C : Addr) (U : Bool → Addr) (CV CM : Addr) : Sp := fun vs H Q _ => ∃ v D t u k, vs = [.ref v, .int k] ∧ IsV CV CM D ∧ VecAt K C U D H v t u ∧ isIntV (.int k) = true ∧ Sm u ∧ Sm (mul t u (uni t k)) ∧ VNew K C U CM H t (mul t u (uni t k)) Q
def spVPow (K : PySem.W.Frag) (C : Addr) (U : Bool → Addr) (CV CM : Addr) : Sp := fun vs H Q _ => ∃ v D t u, ∃ n : Nat, vs = [.ref v, .int n] ∧ IsV CV CM D ∧ VecAt K C U D H v t u ∧ n ≤ 1000 ∧ Sm u ∧ (∀ i, i ≤ n → Sm (pw t u i)) ∧ VNew K C U CM H t (pw t u n) Q
def spVItem (K : PySem.W.Frag) (C : Addr) (U : Bool → Addr) (CV CM : Addr) : Sp := fun vs H Q _ => ∃ v D t u i, vs = [.ref v, .int i] ∧ IsV CV CM D ∧ VecAt K C U D H v t u ∧ (i = 0 ∨ i = 1) ∧ Q (.int (if i = 0 then u.1 else u.2)) H
def spVBool (K : PySem.W.Frag) (C : Addr) (U : Bool → Addr) (CV CM : Addr) : Sp := fun vs H Q _ => ∃ v D t u, vs = [.ref v] ∧ IsV CV CM D ∧ VecAt K C U D H v t u ∧ ∀ H', Same H H' → Q (.bl (!decide (u = (0, 0)))) H'
def vText (u : Int × Int) : Str := (toString u.1 : Str) ++ "," ++ (toString u.2 : Str)
def spVStr (K : PySem.W.Frag) (C : Addr) (U : Bool → Addr) (CV CM : Addr) : Sp := fun vs H Q _ => ∃ v D t u, vs = [.ref v] ∧ IsV CV CM D ∧ VecAt K C U D H v t u ∧ ptOk u ∧ ∀ H', Same H H' → Q (.str (vText u)) H'
/-- y as the other side of a vector of the grid t at u: r tells whether it is equal -/
def VOpd (K : PySem.W.Frag) (C : Addr) (U : Bool → Addr) (CV CM : Addr) (H : Hp) (t : Bool) (u : Int × Int) (y : V) (r : Bool) : Prop :=
  (∃ w D t' z, y = .ref w ∧ IsV CV CM D ∧ VecAt K C U D H w t' z ∧ r = (t == t' && decide (u = z))) ∨ (∃ k : Kd, Of K H y k ∧ r = false) ∨ (∃ g t', y = .ref g ∧ GridAt C U H g t' ∧ r = false)
def spVEq (K : PySem.W.Frag) (C : Addr) (U : Bool → Addr) (CV CM : Addr) : Sp := fun vs H Q _ => ∃ v D t u y r, vs = [.ref v, y] ∧ IsV CV CM D ∧ VecAt K C U D H v t u ∧ VOpd K C U CV CM H t u y r ∧ Q (.bl r) H
def spPartner (K : PySem.W.Frag) (C : Addr) (U : Bool → Addr) (CV CM : Addr) : Sp := fun vs H Q _ => ∃ v w D D' t u z, vs = [.ref v, .ref w] ∧ IsV CV CM D ∧ IsV CV CM D' ∧ VecAt K C U D H v t u ∧ VecAt K C U D' H w t z ∧ Q .non H
def spMinus (K : PySem.W.Frag) : Sp := fun vs H Q _ => ∃ a b u v, vs = [.ref a, .ref b] ∧ PAt K H a u ∧ PAt K H b v ∧ ∀ p, H p = none → Q (.ref p) (upd H p (.tup [.int (psub u v).1, .int (psub u v).2]))
def spRaised (K : PySem.W.Frag) (C : Addr) (U : Bool → Addr) (j : Nat) : Sp := fun vs H Q _ => ∃ g t a u, ∃ n : Nat, vs = [.ref g, .ref a, .int n] ∧ GridAt C U H g t ∧ PAt K H a u ∧ Sm u ∧ n < 2 ^ j ∧ (∀ i, i ≤ n → Sm (pw t u i)) ∧ ∀ p H', H p = none → Same H H' → PAt K H' p (pw t u n) → Q (.ref p) H'
def spWrite : Sp := fun vs H Q _ => ∃ n : Int, vs = [.int n] ∧ isIntV (.int n) = true ∧ ∀ H', Same H H' → Q (.str (toString n)) H'
def spDivG (K : PySem.W.Frag) (C : Addr) (U : Bool → Addr) : Sp := fun vs H Q _ => ∃ g t a b u v, vs = [.ref g, .ref a, .ref b] ∧ GridAt C U H g t ∧ PAt K H a u ∧ PAt K H b v ∧ Sm u ∧ Sm v ∧ Sm (flip t v) ∧ Sm (low t u v) ∧ (nrm t v).natAbs < 2 ^ 2000 ∧ 0 < nrm t v ∧ ∀ x H', Same H H' → QAt K H' (quo t u v) x → Q x H'
/-! ### classes -/
structure VIs (K : PySem.W.Frag) (C CV CM : Addr) : Prop where
  v : GIs K CV
  m : GIs K CM
  mv : PySem.W.subIn K (.ref CM) (.ref CV) = some true
  vm : PySem.W.subIn K (.ref CV) (.ref CM) = some false
  gv : PySem.W.subIn K (.ref C) (.ref CV) = some false
  gm : PySem.W.subIn K (.ref C) (.ref CM) = some false
  ne : CV ≠ CM
theorem VIs.is (i : VIs K C CV CM) (d : IsV CV CM D) : GIs K D := by rcases d with rfl | rfl; exact i.v; exact i.m
theorem VIs.kit (i : VIs K C CV CM) (d : IsV CV CM D) : PySem.W.kitOne K (.ref D) (.ref CV) = some true := by
  rcases d with rfl | rfl
  · exact kit_self
  · unfold PySem.W.kitOne
    rw [if_neg (by intro z; have z := beq_iff_eq.mp z; injection z with z; exact i.ne z.symm)]
    show (if _ then _ else _) = _
    rw [if_pos i.v.is]
    exact i.mv
theorem VIs.kitG (i : VIs K C CV CM) (n : C ≠ CV) : PySem.W.kitOne K (.ref C) (.ref CV) = some false := by
  unfold PySem.W.kitOne
  rw [if_neg (by intro z; have z := beq_iff_eq.mp z; injection z with z; exact n z)]
  show (if _ then _ else _) = _
  rw [if_pos i.v.is]
  exact i.gv
theorem VecAt.ty {H : Hp} {v : Addr} (h : VecAt K C U D H v t u) (i : GIs K D) (c : Cls K D) : TyX K H (.ref v) (.ref D) := let ⟨_, _, _, e, _⟩ := h; i.ty c e
end GL
namespace GL
open PySem PySem.Spec PyProof.Rows L2
variable {K : PySem.W.Frag} {CV CM : Addr}
theorem gm_mk {C f : Addr} {m : Str} (h1 : PySem.W.findIn K (.ref C) m = some (some (.ref f))) (h2 : PySem.W.fnIn K f = true) : ∃ f : Addr, PySem.W.findIn K (.ref C) m = some (some (.ref f)) ∧ PySem.W.fnIn K f = true := ⟨f, h1, h2⟩
/-- what the text has of an operator's names in both classes -/
structure OpTxt (K : PySem.W.Frag) (CV CM : Addr) (m r : Str) : Prop where
  fV : ∃ f : Addr, PySem.W.findIn K (.ref CV) m = some (some (.ref f))
  fM : ∃ f : Addr, PySem.W.findIn K (.ref CM) m = some (some (.ref f))
  rV : PySem.W.findIn K (.ref CV) r = some none
  rM : PySem.W.findIn K (.ref CM) r = some none
  rT : PySem.W.findIn K (.type "type") r = some none
theorem optxt_mk {m r : Str} {f g : Addr} (fV : PySem.W.findIn K (.ref CV) m = some (some (.ref f))) (fM : PySem.W.findIn K (.ref CM) m = some (some (.ref g))) (rV : PySem.W.findIn K (.ref CV) r = some none) (rM : PySem.W.findIn K (.ref CM) r = some none)
    (rT : PySem.W.findIn K (.type "type") r = some none) : OpTxt K CV CM m r := ⟨⟨_, fV⟩, ⟨_, fM⟩, rV, rM, rT⟩
structure ClsTxt (K : PySem.W.Frag) (CV CM : Addr) (nm : Str) : Prop where
  sfV : PySem.W.selfFirst K CV = true
  sfM : PySem.W.selfFirst K CM = true
  ho : PySem.W.nsIn K cStatics "thirdparty.any" = some none
  hty : PySem.W.typeIn K (.ref CM) = some (.type "type")
  hga : PySem.W.findIn K (.type "type") "__getattribute__" = some (some (.builtin "type.__getattribute__"))
  hgg : PySem.W.findIn K (.type "type") "__getattr__" = some none
  hcd : ∃ cd, PySem.W.clsIn K CM = some cd ∧ cd.name = nm
  mv : PySem.W.subIn K (.ref CM) (.ref CV) = some true
  vm : PySem.W.subIn K (.ref CV) (.ref CM) = some false
  ne : CV ≠ CM
theorem bink_mk {op : Operator} {m r nm : Str} (X : ClsTxt K CV CM nm) (O : OpTxt K CV CM m r) (hm : PySem.dunder op.info.2 = m) (hr : dunderR op.info.2 = r) (hs8 : nm.cps.foldl (fun k c => k + (Str.utf8Of c).length) 0 ≤ 100)
    (hfit : (((s!"type object '{nm.toString}' has no attribute '" : String) : Str) ++ r ++ ("'" : Str)).length ≤ sizeLine) (hfit2 : r.length ≤ sizeLine) : ∀ C D, IsV CV CM C → IsV CV CM D → BinK K C D op := by
  have bV : BinC K CV op.info.2 := ⟨X.sfV, by rw [hm]; exact O.fV, by rw [hr]; exact O.rV⟩
  have bM : BinC K CM op.info.2 := ⟨X.sfM, by rw [hm]; exact O.fM, by rw [hr]; exact O.rM⟩
  obtain ⟨cd, h1, h2⟩ := X.hcd
  intro C D hC hD
  rcases hC with rfl | rfl <;> rcases hD with rfl | rfl
  · exact .same rfl X.sfV
  · exact .sub X.ne bV bM X.mv nm cd ⟨X.ho, X.hty, by rw [hr]; exact O.rT, X.hga, X.hgg, h1, h2, hs8, by rw [hr]; exact hfit, by rw [hr]; exact hfit2⟩
  · exact .mixed (fun z => X.ne z.symm) bM bV X.vm
  · exact .same rfl X.sfM
end GL
/-! errors of own classes: made with a message or with one field, held as values, asked, raised, caught -/
namespace PySem
namespace GLE
open Builtin Builtin.ObjectAttr
/-- a chain of classes as the maker wants it: own ones first, then that of B -/
structure Chain (B : String) (bm : List Value) : Prop where
  hasB : bm.contains (.type B) = true
  exc : bm.contains (.type "BaseException") = true
  obj : bm.contains (.type "object") = true
  notA : bm.contains (.type "AttributeError") = false
  notN : bm.contains (.type "NameError") = false
  some_ : bm.isEmpty = false
  lets : ∀ me : Value, refuseLoop me "__setattr__" bm = pure ()
theorem Chain.cons {B : String} {bm : List Value} {c : Addr} (h : Chain B bm) : Chain B (.ref c :: bm) where
  hasB := by rw [List.contains_cons, h.hasB, Bool.or_true]
  exc := by rw [List.contains_cons, h.exc, Bool.or_true]
  obj := by rw [List.contains_cons, h.obj, Bool.or_true]
  notA := by rw [List.contains_cons, h.notA]; rfl
  notN := by rw [List.contains_cons, h.notN]; rfl
  some_ := rfl
  lets := fun me => by rw [refuseLoop_ref]; exact h.lets me
theorem chain_value : Chain "ValueError" [.type "ValueError", .type "Exception", .type "BaseException", .type "object"] :=
  ⟨by decide +kernel, by decide +kernel, by decide +kernel, by decide +kernel, by decide +kernel, rfl, fun me => by kernel_rfl⟩
theorem chain_key : Chain "LookupError" [.type "KeyError", .type "LookupError", .type "Exception", .type "BaseException", .type "object"] :=
  ⟨by decide +kernel, by decide +kernel, by decide +kernel, by decide +kernel, by decide +kernel, rfl, fun me => by kernel_rfl⟩
theorem chain_lookup : Chain "LookupError" [.type "LookupError", .type "Exception", .type "BaseException", .type "object"] :=
  ⟨by decide +kernel, by decide +kernel, by decide +kernel, by decide +kernel, by decide +kernel, rfl, fun me => by kernel_rfl⟩
theorem chain_index : Chain "IndexError" [.type "IndexError", .type "LookupError", .type "Exception", .type "BaseException", .type "object"] :=
  ⟨by decide +kernel, by decide +kernel, by decide +kernel, by decide +kernel, by decide +kernel, rfl, fun me => by kernel_rfl⟩
theorem chain_runtime : Chain "RuntimeError" [.type "RuntimeError", .type "Exception", .type "BaseException", .type "object"] :=
  ⟨by decide +kernel, by decide +kernel, by decide +kernel, by decide +kernel, by decide +kernel, rfl, fun me => by kernel_rfl⟩
theorem chain_overflow : Chain "OverflowError" [.type "OverflowError", .type "ArithmeticError", .type "Exception", .type "BaseException", .type "object"] :=
  ⟨by decide +kernel, by decide +kernel, by decide +kernel, by decide +kernel, by decide +kernel, rfl, fun me => by kernel_rfl⟩
theorem chain_arith : Chain "ArithmeticError" [.type "ArithmeticError", .type "Exception", .type "BaseException", .type "object"] :=
  ⟨by decide +kernel, by decide +kernel, by decide +kernel, by decide +kernel, by decide +kernel, rfl, fun me => by kernel_rfl⟩
theorem chain_zero : Chain "ZeroDivisionError" [.type "ZeroDivisionError", .type "ArithmeticError", .type "Exception", .type "BaseException", .type "object"] :=
  ⟨by decide +kernel, by decide +kernel, by decide +kernel, by decide +kernel, by decide +kernel, rfl, fun me => by kernel_rfl⟩

section
variable {prog : Program} {w : World} {A : Around} {E : Value → Shared → Prop} {R : Result → Shared → Prop} {h : Heap} {g : Array GenState} {d : Drawn} {t : Nat} {os : OsState}
variable {nm q : Str} {C N : Addr} {bs bm bB : List Value} {hdct : Bool} {sn : List Str} {sub : List Value} {ab : Bool} {col : Option Bool} {dd : Option Addr} {k0 k1 k2 k3 k5 : Option Value} {B nwId inId : String}
theorem mk_check (F : ExcBaseFacts B nwId inId bB) (ch : Chain B bm) {rest : List Value} {Q : Unit → Shared → Prop} (oC : h.get? C = some (excClassObj nm q C N bs bm hdct sn sub ab col dd k0 k1 k2 k3 k5 nwId)) (go : Q () ⟨h, g, d, t, os⟩) :
    wpAny (model prog w) A (checkBuiltinCall nwId ⟨.ref C :: rest, []⟩) Q E ⟨h, g, d, t, os⟩ := by
  have inB := (ch.cons (c := C)).hasB
  have noS := F.noStar
  simp only [checkBuiltinCall, F.newKind, F.newSplit, F.newRow]
  repeat (first | refine wpAny_loadPart_at oC ?_ | (refine wpAny_isSubtype_exc oC ?_; rw [inB]) | refine wpAny_staticBase_exc oC ?_ | refine wpAny_madeBy_exc oC ?_ | simp only [bne_self_eq_false, Bool.false_eq_true, if_false] | wp_step)
  exact go
theorem mk_new (F : ExcBaseFacts B nwId inId bB) (ch : Chain B bm) {rest : List Value} (oC : h.get? C = some (excClassObj nm q C N bs bm hdct sn sub ab col dd k0 k1 k2 k3 k5 nwId)) (few : rest.length ≤ sizeLine)
    (go : R (.ok (.ret (.ref (h.objs.size + 1)))) ⟨(h.push (W.kdv_tup rest)).push (HandSPX.excO C h.objs.size), g, d, t, os⟩) : codeAny (model prog w) A (.builtin nwId ⟨.ref C :: rest, []⟩) R ⟨h, g, d, t, os⟩ := by
  have inB := (ch.cons (c := C)).hasB
  have inA := (ch.cons (c := C)).notA
  have inN := (ch.cons (c := C)).notN
  have hend := F.ends
  refine codeAny_builtinAt F.entry ?_
  unfold Builtin.«BaseException.__new__»
  refine wpAt_bind ?_
  show wpAt _ _ _ (stack >>= _) _ _ _
  refine wpAt_bind (wpAt_stack fun p below => wpAt_of_wpAny ?_)
  wp_walk
  refine wpAt_of_wpAny ?_
  rw [F.owner]
  repeat (first | with_reducible refine wpAny_madeHere_exc F.canon oC ?_ | with_reducible refine wpAny_loadPart_at oC ?_ | (with_reducible refine wpAny_isSubtype_exc oC ?_; first | rw [inB] | rw [inA] | rw [inN]) | wp_step)
  show R _ _
  rw [Heap.size_push]
  exact go
theorem mk_tcall (F : ExcBaseFacts B nwId inId bB) (ch : Chain B bm) {rest : List Value} {fI : Addr} {Q : Fin → Shared → Prop} (oC : h.get? C = some (excClassObj nm q C N bs bm hdct sn sub ab col dd k0 k1 k2 k3 k5 nwId))
    (li : W.Looks (model prog w) h (typeLookup (.ref C) "__init__") (some (.ref fI))) (lb : ∀ me, W.Looks (model prog w) h (bindSpecial (.ref fI) me) (.ref fI, [me])) (few : rest.length ≤ sizeLine)
    (go : codeAny (model prog w) A (.call (.ref fI) ⟨.ref (h.objs.size + 1) :: rest, []⟩) (fun r s' => match r with | .ok (.ret v) => v = .none ∧ Q (.done (.ret (.ref (h.objs.size + 1)))) s' | .ok _ => False | .error e => E e s')
      ⟨(h.push (W.kdv_tup rest)).push (HandSPX.excO C h.objs.size), g, d, t, os⟩) : wpAny (model prog w) A (Builtin.«type.__call__» ⟨.ref C :: rest, []⟩) Q E ⟨h, g, d, t, os⟩ := by
  repeat (first | with_reducible refine wpAny_loadPart_at oC ?_ | with_reducible refine wpAny_madeBy_exc oC ?_ | wp_step)
  refine codeAny_call_builtin_code (Code.quiet_builtin _ F.quiet) (mk_check F ch oC ?_)
  refine mk_new F ch oC few ?_
  show wpAny _ _ _ _ _ _
  have old : ∀ b o, h.get? b = some o → ((h.push (W.kdv_tup rest)).push (HandSPX.excO C h.objs.size)).get? b = some o := fun b o z => Heap.get?_push_of_some _ (Heap.get?_push_of_some _ z)
  have oC1 := old _ _ oC
  have here : ((h.push (W.kdv_tup rest)).push (HandSPX.excO C h.objs.size)).get? (h.objs.size + 1) = some (HandSPX.excO C h.objs.size) := by heap_get
  have self_ : (Value.ref C :: bm).contains (.ref C) = true := by simp
  have li1 := li.keeps old
  have lb1 := (lb (.ref (h.objs.size + 1))).keeps old
  unfold isInstance
  repeat (first | with_reducible refine wpAny_loadPart_at here ?_ | (with_reducible refine wpAny_isSubtype_exc oC1 ?_; rw [self_]) | wp_step)
  show wpAny _ _ (typeLookup (.ref C) _) _ _ _
  refine li1.at ?_
  refine wpAny_holding (wpAny_bind (lb1.at ?_))
  refine wpAny_bind (wpAny_call (codeAny_mono go fun r s' z => ?_))
  rcases r with e | (v | _ | _ | _) <;> first | exact z | exact z.elim | skip
  obtain ⟨rfl, z⟩ := z
  first
    | exact wpAny_pure (wpAny_pure z)
    | (wp_walk; exact z)
theorem mk_call (F : ExcBaseFacts B nwId inId bB) (ch : Chain B bm) {rest : List Value} {fI : Addr} (oC : h.get? C = some (excClassObj nm q C N bs bm hdct sn sub ab col dd k0 k1 k2 k3 k5 nwId))
    (li : W.Looks (model prog w) h (typeLookup (.ref C) "__init__") (some (.ref fI))) (lb : ∀ me, W.Looks (model prog w) h (bindSpecial (.ref fI) me) (.ref fI, [me])) (few : rest.length ≤ sizeLine)
    (go : codeAny (model prog w) (A.under (.builtin "type.__call__" ⟨.ref C :: rest, []⟩)) (.call (.ref fI) ⟨.ref (h.objs.size + 1) :: rest, []⟩) (W.InitBack (h.objs.size + 1) R) ⟨(h.push (W.kdv_tup rest)).push (HandSPX.excO C h.objs.size), g, d, t, os⟩) :
    codeAny (model prog w) A (.call (.ref C) ⟨rest, []⟩) R ⟨h, g, d, t, os⟩ := by
  have f1 := tc_lookup
  have f2 := tc_bind (.ref C)
  have isT : (⟨h, g, d, t, os⟩ : Shared).TypeIs (.ref C) "type" := ⟨_, oC, rfl⟩
  refine codeAny_of_tree ?_
  show wpAny _ _ (callAny (.ref C) _) _ _ _
  repeat (any_goals (first | assumption | with_reducible refine wpAny_loadPart_at oC ?_ | wp_step))
  refine ⟨rfl, ?_⟩
  refine codeAny_call_builtin_at (Code.quiet_builtin _ (by decide +kernel)) entry_typeCall (wpAny_check_type_call_sub oC (mk_tcall F ch oC li lb few ?_))
  refine codeAny_mono go fun r s' z => ?_
  rcases r with e | (v | _ | _ | _) <;> exact z
end
end GLE
end PySem
namespace PySem
namespace GLE
open Builtin Builtin.ObjectAttr
section
variable {prog : Program} {w : World} {A : Around} {E : Value → Shared → Prop} {R : Result → Shared → Prop} {hp : Heap} {g : Array GenState} {d : Drawn} {t : Nat} {os : OsState}
/-- me.f = v on an error without a dict -/
theorem osa_first {K : W.Frag} {B : String} {f : Str} {tk : Tok} {v : Value} {x C : Addr} {fv : Array Value} {cd : ClassData} (X : K.In hp) (ox : hp.get? x = some { cls := .ref C, data := .fields fv }) (lc : W.clsIn K C = some cd) (ch : Chain B cd.mro)
    (hd : cd.hasDict = true) (no : W.findIn K (.ref C) f = some none)
    (go : ∀ h' tk' dx, (∀ b o, b ≠ x → hp.get? b = some o → h'.get? b = some o) → hp.objs.size ≤ dx → dx ≠ x → h'.get? x = some { cls := .ref C, dict := some dx, data := .fields fv } → h'.Ns1 dx (fun y => if y = f then some v else none) →
      R (.ok (.ret .none)) ⟨h', g, d, tk', os⟩) : codeAny (model prog w) A (.call (.builtin "object.__setattr__") ⟨[.ref x, .str f tk, v], []⟩) R ⟨hp, g, d, t, os⟩ := by
  have at_ : W.InstAt hp x { cls := .ref C, data := .fields fv } C none := ⟨ox, rfl, rfl, trivial⟩
  have SO := F.store_object
  have apart : x ≠ hp.objs.size := Nat.ne_of_lt (Heap.lt_size ox)
  have isO : W.Looks (model prog w) hp (isInstance (.ref x) (.type "object")) true := at_.type.andThen (W.looks_mroIn X (by unfold W.mroIn; rw [lc, Option.bind_some, if_neg (by rw [ch.some_]; decide), ch.obj]))
  refine codeAny_call_builtin SO.slot.plain SO.entry (@W.check_slot (model prog w) _ _ ⟨hp, g, d, t, os⟩ "object.__setattr__" "object" "__setattr__" (.ref x) [.str f tk, v] [] _ SO.kind SO.split isO (SO.args (.ref x) (.str f tk) v) ?_)
  have lm : W.Looks (model prog w) hp (mroOf (.ref C)) cd.mro := (W.looks_clsIn X lc).andThen .now
  have lt : W.Looks (model prog w) hp (storeTaker? none) none := .now
  have lcl : W.Looks (model prog w) hp (classData C) cd := W.looks_clsIn X lc
  rw [W.osa_eq, refuse_eq]
  refine wpAny_bind (wpAny_bind (at_.type.at (wpAny_bind (lm.at ?_))))
  rw [ch.lets]
  refine wpAny_pure (wpAny_bind (at_.type.at (wpAny_bind ((W.looks_findIn X no).at (wpAny_bind (lt.at ?_))))))
  show wpAny _ _ (storeInOwnDict (.ref x) (.ref C) (.str f tk) f v false) _ _ _
  obtain ⟨nm, bs, mro, ns, qn, has, sn, sb, ab, col, del⟩ := cd
  dsimp only at hd
  subst hd
  unfold storeInOwnDict ownDictForStores
  repeat (first | with_reducible refine HandSPX.store_in_new ?_ ?_ | with_reducible refine wpAny_loadPart_at ox ?_ | with_reducible refine lcl.at ?_ | wp_step)
  · exact ⟨_, #[], _, (Heap.get?_update_ne _ _ _ _ apart.symm).trans (Heap.get?_push_at rfl rfl), rfl, fun e he => absurd he (by simp), fun _ => rfl⟩
  · intro h' tk' hn' hs
    have ox1 : (hp.push { cls := .type "dict", data := .dict #[] }).get? x = some { cls := .ref C, data := .fields fv } := Heap.get?_push_of_some _ ox
    refine go h' tk' hp.objs.size (fun b o hb ho => ?_) (Nat.le_refl _) apart.symm ?_ hn'
    · exact (hs.2 b (Nat.ne_of_lt (Heap.lt_size ho))).trans ((Heap.get?_update_ne _ _ _ _ hb).trans (Heap.get?_push_of_some _ ho))
    · exact (hs.2 x apart).trans (Heap.get?_update_self _ ox1 rfl)
end
end GLE
end PySem
namespace PySem
namespace GLE
open PySem.W PySem.Calls PyProof.Rows PySem.HandSPX
/-- def __init__(self, f): self.f = f -/
def iArgs (f : Str) (p1 p2 : Pos) : Arguments := { posonlyargs := [], args := [{ arg := "self", annotation := none, pos := p1 }, { arg := f, annotation := none, pos := p2 }], vararg := none, kwonlyargs := [], kw_defaults := [], kwarg := none, defaults := [] }
def iBody (f : Str) (q1 q2 q3 q4 : Pos) : List Stmt := [.Assign [.Attribute (.Name "self" q1) f q2] (.Name f q3) q4]
def iScope (f : Str) : Scope := { kind := .function, names := [(PySem.Str.ofString "self", .local), (f, .local)], isGenerator := false, isCoroutine := false, more := [] }
/-- what the written part says of the class x at C, over B, whose __init__ at fI keeps one field f -/
structure ErrTxt (K : Frag) (mg : Str → Option Value) (x f : Str) (C fI : Addr) : Prop where
  gC : mg x = some (.ref C)
  cls : ∃ nm q N bs bm sn sub ab col dd k0 k1 k2 k3 k5 B nwId inId bB, ExcBaseFacts B nwId inId bB ∧ Chain B bm ∧ K.lookup C = some (excClassObj nm q C N bs bm true sn sub ab col dd k0 k1 k2 k3 k5 nwId)
  sa : findIn K (.ref C) "__setattr__" = some (some (.builtin "object.__setattr__"))
  ga : findIn K (.ref C) "__getattribute__" = some (some (.builtin "BaseException.__getattribute__"))
  gg : findIn K (.ref C) "__getattr__" = some none
  noN : findIn K (.ref C) f = some none
  iC : findIn K (.ref C) "__init__" = some (some (.ref fI))
  tC : typeIn K (.ref fI) = some (.type "function")
  kC : keepIn K (.ref C) = true
  exC : subIn K (.ref C) (.type "BaseException") = some true
  tyC : typeIn K (.ref C) = some (.type "type")
  hdC : hasDictIn K C = true
  f1 : (f == ("self" : Str)) = false
  f2 : (f == ("__debug__" : Str)) = false
  bd : ∀ (qual : Str) (p1 p2 q1 q2 q3 q4 : Pos) (doc pm : Value) (an : Option Addr) (cdv ct : Value) (a : Addr) (v : Value) (u : Unit), bindArgs (fnOf "__init__" qual (iArgs f p1 p2) (iBody f q1 q2 q3 q4) (iScope f) .none .none doc pm an cdv ct) ⟨[.ref a, v], []⟩ = pure [(PySem.Str.ofString "self", .ref a), (f, v)]
  fn : ∃ (oc : Value) (od : Option Addr) (qual : Str) (doc pm : Value) (an : Option Addr) (cdv ct : Value) (osl : Array (Option Value)) (p1 p2 q1 q2 q3 q4 : Pos),
    K.lookup fI = some ⟨oc, od, .func (fnOf "__init__" qual (iArgs f p1 p2) (iBody f q1 q2 q3 q4) (iScope f) .none .none doc pm an cdv ct), osl⟩ ∧ codeIn K cdv qual = true
theorem ld_slot {M : Model} {s : Shared} {name : Str} {scope : Scope} {L a : Addr} {cd : Value} {m : Str → Option Value} {x : Str} {pos : Pos} {v : Value} {Q : Value → Shared → Prop} {A : Around} {E : Value → Shared → Prop} (n : s.heap.Ns L m) (e : m x = some v) (go : Q v s)
    (hk : scope.kind = .function) (hl : (envOfC name scope L a cd).kindOf x = some .local) (hd : (x == ("__debug__" : Str)) = false) : wpAny M A (eval (.Name x pos) (envOfC name scope L a cd)) Q E s := wpAny_Name (wpAny_loadName_local hk hl n e go) hd
/-- an error with its dict at d, made at e -/
structure Born (h h' : Heap) (e C d : Addr) (f : Str) (v : Value) : Prop where
  old : ∀ b o, h.get? b = some o → h'.get? b = some o
  new : h.objs.size ≤ e
  obj : ∃ oe vs, h'.get? e = some oe ∧ oe.cls = .ref C ∧ oe.dict = some d ∧ oe.data = .fields vs ∧ vs[1]? = some .none
  dnew : h.objs.size ≤ d
  dne : d ≠ e
  ns : h'.Ns1 d (fun y => if y = f then some v else none)
section
variable {prog : Program} {w : World} {A : Around} {E : Value → Shared → Prop} {R : Result → Shared → Prop} {s : Shared} {K : Frag} {mg : Str → Option Value} {C fI : Addr} {x f : Str}
theorem kind_self {name : Str} {L a : Addr} {cd : Value} : (envOfC name (iScope f) L a cd).kindOf "self" = some .local := by
  show List.lookup ("self" : Str) [(PySem.Str.ofString "self", NameKind.local), (f, .local)] = some .local
  rfl
theorem kind_fld {name : Str} {L a : Addr} {cd : Value} (n : (f == ("self" : Str)) = false) : (envOfC name (iScope f) L a cd).kindOf f = some .local := by
  show List.lookup f [(("self" : Str), NameKind.local), (f, .local)] = some .local
  simp [List.lookup, n]
theorem bind_b {kf : Str → Option NameKind} {y z : Str} {a b : Value} (ky : kf y = some .local) (kz : kf z = some .local) : bindL kf [(y, a), (z, b)] (fun _ => none) z = some b := by
  simp [bindL, ky, kz]
theorem bind_a {kf : Str → Option NameKind} {y z : Str} {a b : Value} (ky : kf y = some .local) (kz : kf z = some .local) (n : y ≠ z) : bindL kf [(y, a), (z, b)] (fun _ => none) y = some a := by
  simp [bindL, ky, kz, n]
theorem err_init (T : ErrTxt K mg x f C fI) {a t0 : Addr} {v : Value} (X : K.In s.heap) (nl : s.heap.NoLimit) (oa : s.heap.get? a = some (excO C t0)) (hroom : A.depth < recursionLimit)
    (go : ∀ h' tk dx, (∀ b o, b ≠ a → s.heap.get? b = some o → h'.get? b = some o) → h'.get? a = some { cls := .ref C, dict := some dx, data := .fields #[.ref t0, .none, .none, .none, .bool false, .none] } → s.heap.objs.size ≤ dx → dx ≠ a →
      h'.Ns1 dx (fun y => if y = f then some v else none) → R (.ok (.ret .none)) { s with heap := h', toks := tk }) : codeAny (model prog w) A (.call (.ref fI) ⟨[.ref a, v], []⟩) R s := by
  obtain ⟨oc, od, qual, doc, pm, an, cdv, ct, osl, p1, p2, q1, q2, q3, q4, ho, hcd⟩ := T.fn
  obtain ⟨nm, q, N, bs, bm, sn, sub, ab, col, dd, k0, k1, k2, k3, k5, B, nwId, inId, bB, F, ch, oC⟩ := T.cls
  have lc : clsIn K C = some { name := nm, bases := bs, mro := .ref C :: bm, ns := N, qualname := q, hasDict := true, slotNames := sn, subclasses := sub, abstract := ab, collection := col, hasDel := false } := by unfold clsIn; rw [oC] <;> rfl
  refine Att.call_fn (binds := [("self", .ref a), (f, v)]) X nl ho hcd hroom (BindsTo.of_eq ?_) ?_ (fun s₁ IC => ?_) rfl rfl rfl
  · exact T.bd _ _ _ _ _ _ _ _ _ _ _ _ _ _ ()
  · have k : List.lookup f [(("self" : Str), NameKind.local), (f, .local)] = some .local := by simp [List.lookup, T.f1]
    show ((_ || _) && ((_ || _) && true)) = true
    rw [show List.lookup f (iScope f).names = some .local from k]
    rfl
  obtain ⟨h₁, tk₁, rfl⟩ := IC.toInCall.same
  have old : ∀ b o, s.heap.get? b = some o → h₁.get? b = some o := IC.toInCall.keep
  have ns := IC.toInCall.ns
  have X1 : K.In h₁ := X.keeps old
  have oa1 := old _ _ oa
  show wpAny _ _ (execs _ _) _ _ _
  refine wpAny_execs_cons (plainObj_wpAny_Assign_Attribute ?_)
  refine ld_slot (v := v) ns ?_ (ld_slot (v := .ref a) ns ?_ ?_ rfl kind_self (by decide)) rfl (kind_fld T.f1) T.f2
  · exact bind_b kind_self (kind_fld T.f1)
  · exact bind_a kind_self (kind_fld T.f1) (fun z => by
      have y := T.f1
      rw [← z] at y
      simp at y)
  refine set_plain X1 (ox := excO C t0) (od := none) ⟨oa1, rfl, rfl, trivial⟩ T.sa ?_
  refine osa_first X1 oa1 lc ch.cons rfl T.noN (fun h3 tk3 dx k3 dn dne ox3 n3 => ?_)
  show wpAny _ _ (execs _ _) _ _ _
  have z : s.heap.objs.size < h₁.objs.size := ns.lt
  exact wpAny_execs_nil (go h3 tk3 dx (fun b o hb e => k3 b o hb (old b o e)) ox3 (Nat.le_of_lt (Nat.lt_of_lt_of_le z dn)) dne n3)
theorem err_made (T : ErrTxt K mg x f C fI) {v : Value} (X : K.In s.heap) (nl : s.heap.NoLimit) (hroom : A.depth + 1 < recursionLimit) (go : ∀ h' tk e d, Born s.heap h' e C d f v → R (.ok (.ret (.ref e))) { s with heap := h', toks := tk }) :
    codeAny (model prog w) A (.call (.ref C) ⟨[v], []⟩) R s := by
  obtain ⟨nm, q, N, bs, bm, sn, sub, ab, col, dd, k0, k1, k2, k3, k5, B, nwId, inId, bB, F, ch, oC⟩ := T.cls
  obtain ⟨hp, g, dr, tk, os⟩ := s
  have old : ∀ b o, hp.get? b = some o → ((hp.push (kdv_tup [v])).push (excO C hp.objs.size)).get? b = some o := fun b o e => Heap.get?_push_of_some _ (Heap.get?_push_of_some _ e)
  have here : ((hp.push (kdv_tup [v])).push (excO C hp.objs.size)).get? (hp.objs.size + 1) = some (excO C hp.objs.size) := by heap_get
  refine mk_call F ch (X _ _ oC) (looks_findIn X T.iC) (fun me => bind_fn X me T.tC) (by rw [sizeLine_eq]; exact (by decide : 1 ≤ 16777216)) ?_
  refine err_init (s := ⟨(hp.push (kdv_tup [v])).push (excO C hp.objs.size), g, dr, tk, os⟩) T (X.keeps old) (nl.keeps old) here ?_ fun h' tk' dx k' ox dn dne n1 => ?_
  · show A.depth + 1 < recursionLimit
    exact hroom
  · have z : hp.objs.size + 1 + 1 ≤ dx := by
      have q := dn
      simpa only [Heap.size_push] using q
    exact ⟨rfl, go h' tk' (hp.objs.size + 1) dx ⟨fun b o e => k' b o (Nat.ne_of_lt (Nat.lt_succ_of_lt (Heap.lt_size e))) (old b o e), Nat.le_succ _, ⟨_, _, ox, rfl, rfl, rfl, rfl⟩, Nat.le_trans (by show hp.objs.size ≤ hp.objs.size + 1 + 1; omega) z, dne, n1⟩⟩
end
end GLE
end PySem
namespace GL
open PySem PySem.Spec PyProof.Rows L2 PySem.GLE
/-- an error of the class at C whose dict, if any, is at d, held as a value -/
def EV (C : Addr) (d : Option Addr) (a : Addr) : HO := .ext fun h => ∃ (oe : Obj) (vs : Array Value), h.get? a = some oe ∧ Zc (.ref C) d oe ∧ oe.data = .fields vs
theorem ev_ok {P : Program} {w : World} {H : Hp} {h : Heap} {a C : Addr} {d : Option Addr} {oe : Obj} {vs : Array Value} (e : h.get? a = some oe) (z : Zc (.ref C) d oe) (q : oe.data = .fields vs) : ObjOk P w H h a (EV C d a) :=
  ⟨⟨oe, vs, e, z, q⟩, ⟨oe, e⟩, fun _ _ ⟨o, v, q, r⟩ k => ⟨o, v, k o q, r⟩⟩
theorem ev_at {P : Program} {w : World} {H : Hp} {h : Heap} {a C : Addr} {d : Option Addr} (ok : HOk P w H h) (e : H a = some (EV C d a)) : ∃ (oe : Obj) (vs : Array Value), h.get? a = some oe ∧ Zc (.ref C) d oe ∧ oe.data = .fields vs := by
  have x : ObjOk P w H h a (.ext fun h => ∃ (oe : Obj) (vs : Array Value), h.get? a = some oe ∧ Zc (.ref C) d oe ∧ oe.data = .fields vs) := ok a _ e
  exact x.1
theorem exO_at {P : Program} {w : World} {H : Hp} {h : Heap} {a C : Addr} (ok : HOk P w H h) (e : H a = some (ExO (.ref C) a)) : ∃ (oe : Obj) (vs : Array Value), h.get? a = some oe ∧ Zc (.ref C) none oe ∧ oe.data = .fields vs := by
  have x : ObjOk P w H h a (.ext fun h => ∃ (oe : Obj) (vs : Array Value), h.get? a = some oe ∧ Zc (.ref C) none oe ∧ oe.data = .fields vs ∧ vs[1]? = some .none ∧ vs[2]? = some .none ∧ 4 < vs.size) := ok a _ e
  obtain ⟨⟨oe, vs, h1, h2, h3, _⟩, _⟩ := x
  exact ⟨oe, vs, h1, h2, h3⟩
theorem rel1 {f : Str} {v : V} {u : Value} (r : RelV v u) (g : Str) : RelO (List.lookup g [(f, v)]) (if g = f then some u else none) := by
  by_cases e : g = f
  · subst e
    rw [if_pos rfl]
    have q : List.lookup g [(g, v)] = some v := by simp [List.lookup]
    rw [q]
    exact r
  · rw [if_neg e]
    have n : (g == f) = false := by simpa using e
    have q : List.lookup g [(f, v)] = none := by simp [List.lookup, n]
    rw [q]
    trivial
section
variable {X : Cx} {C fI : Addr} {x f : Str} {a : Expr} {ta : TA} {p pos : Pos} {k : Nat}
/-- x(a) as a value: the error, its dict -/
def tErr (C : Addr) (f : Str) (ta : TA) : TE := fun σ H Q => ta σ H fun vs H1 => ∃ v, vs = [v] ∧ ∀ e d, H1 e = none → H1 d = none → d ≠ e → Q (.ref e) (upd (upd H1 d (.xd [(f, v)])) e (EV C (some d) e))
theorem pe_err (T : ErrTxt X.K X.mg x f C fI) (hr : Room k X.A) (ha : PA X [a] ta) (hg : Gl X x := by exact rfl) (hdb : (x == ("__debug__" : Str)) = false := by decide)
    (he : starEach [a] X.env = (false, eval a X.env) :: starEach [] X.env := by rfl) (hpl : (backTo pos (starEach [] X.env)).any (·.1) = false := by rfl) : PE X (.Call (.Name x p) [a] [] pos) (tErr C f ta) := by
  refine ⟨fun pins s σ H Q I h => ?_⟩
  refine wpAny_Call_Name_kw (ld_glob I hg T.gC ?_ hdb)
  refine PySem.W.callWith_K (h₀ := X.base) I.ok.mod.kin T.kC (thn (ha.run pos pins s σ H _ I h) fun us s1 hh => ?_) he hpl
  obtain ⟨vs, H1, I1, r1, v, ev, q1⟩ := hh
  subst ev
  refine ⟨I1.kIn, ?_⟩
  obtain ⟨u, rfl, ru⟩ := vals1 r1
  show wpAny _ _ (call (.ref C) [u]) _ _ _
  have nl := I1.nolimit
  obtain ⟨hp, g, dr, tk, os⟩ := s1
  refine wpAny_call (err_made T I1.kIn nl (by have := hr.dp; omega) fun h' tk' e d M => ?_)
  obtain ⟨oe, fv, oE, hc, hd, hdat, _⟩ := M.obj
  obtain ⟨G, g1, g2⟩ := restrict h' fun b => decide (b ≠ e)
  have gk : ∀ b, b ≠ e → G.get? b = h'.get? b := fun b hb => g1 b (decide_eq_true hb)
  have ge : G.get? e = none := g2 e (by simp)
  have old : ∀ b o, hp.get? b = some o → G.get? b = some o := fun b o q => (gk b (Nat.ne_of_lt (Nat.lt_of_lt_of_le (Heap.lt_size q) M.new))).trans (M.old b o q)
  have up : ∀ b o, G.get? b = some o → h'.get? b = some o := fun b o q => by
    by_cases hb : b = e
    · rw [hb, ge] at q; cases q
    · exact (gk b hb).symm.trans q
  have ob : ObjOk X.prog X.w (upd H1 d (.xd [(f, v)])) G d (.xd [(f, v)]) := ⟨_, M.ns.at (fun o q => (gk d M.dne).trans q), fun y => rel1 ru y⟩
  have J : Inv X pins σ (upd H1 d (.xd [(f, v)])) ⟨G, g, dr, tk', os⟩ := I1.laid (t' := tk') old M.dnew ob
  have ne : H1 e = none := I1.hok.fresh M.new
  have ne2 : upd H1 d (.xd [(f, v)]) e = none := by rw [upd_ne (Ne.symm M.dne)]; exact ne
  exact ⟨.ref e, _, J.laidN (t' := tk') up ge ne2 (ev_ok oE ⟨hc, hd⟩ hdat), rfl, q1 e d ne (I1.hok.fresh M.dnew) M.dne⟩
/-- x(a) as what is raised -/
def tMkErr (C : Addr) (f : Str) (ta : TA) : L2.St → Hp → XK → Prop := fun σ H Q => ta σ H fun vs H1 => ∃ v, vs = [v] ∧ ∀ d, H1 d = none → Q (.ref C) (some d) (upd H1 d (.xd [(f, v)]))
theorem pmk_err (T : ErrTxt X.K X.mg x f C fI) (hr : Room k X.A) (ha : PA X [a] ta) (hg : Gl X x := by exact rfl) (hdb : (x == ("__debug__" : Str)) = false := by decide)
    (he : starEach [a] X.env = (false, eval a X.env) :: starEach [] X.env := by rfl) (hpl : (backTo pos (starEach [] X.env)).any (·.1) = false := by rfl) : PMk X (.Call (.Name x p) [a] [] pos) (tMkErr C f ta) := by
  intro pins s σ H Q I h
  refine wpAny_Call_Name_kw (ld_glob I hg T.gC ?_ hdb)
  refine PySem.W.callWith_K (h₀ := X.base) I.ok.mod.kin T.kC (thn (ha.run pos pins s σ H _ I h) fun us s1 hh => ?_) he hpl
  obtain ⟨vs, H1, I1, r1, v, ev, q1⟩ := hh
  subst ev
  refine ⟨I1.kIn, ?_⟩
  obtain ⟨u, rfl, ru⟩ := vals1 r1
  show wpAny _ _ (call (.ref C) [u]) _ _ _
  have nl := I1.nolimit
  obtain ⟨hp, g, dr, tk, os⟩ := s1
  refine wpAny_call (err_made T I1.kIn nl (by have := hr.dp; omega) fun h' tk' e d M => ?_)
  show MkP X pins σ Q (.ref e) ⟨h', g, dr, tk', os⟩
  obtain ⟨oe, fv, oE, hc, hd, hdat, h1⟩ := M.obj
  obtain ⟨G, g1, g2⟩ := restrict h' fun b => decide (b ≠ e)
  have gk : ∀ b, b ≠ e → G.get? b = h'.get? b := fun b hb => g1 b (decide_eq_true hb)
  have ge : G.get? e = none := g2 e (by simp)
  have old : ∀ b o, hp.get? b = some o → G.get? b = some o := fun b o q => (gk b (Nat.ne_of_lt (Nat.lt_of_lt_of_le (Heap.lt_size q) M.new))).trans (M.old b o q)
  have up : ∀ b o, G.get? b = some o → h'.get? b = some o := fun b o q => by
    by_cases hb : b = e
    · rw [hb, ge] at q; cases q
    · exact (gk b hb).symm.trans q
  have ob : ObjOk X.prog X.w (upd H1 d (.xd [(f, v)])) G d (.xd [(f, v)]) := ⟨_, M.ns.at (fun o q => (gk d M.dne).trans q), fun y => rel1 ru y⟩
  have J : Inv X pins σ (upd H1 d (.xd [(f, v)])) ⟨G, g, dr, tk', os⟩ := I1.laid (t' := tk') old M.dnew ob
  refine ⟨e, oe, fv, ⟨G, g, dr, tk', os⟩, _, .ref C, some d, rfl, J, up, ge, oE, ⟨hc, hd⟩, hdat, h1, ?_, rfl, I1.bare, raises_own T.exC T.tyC, q1 d (I1.hok.fresh M.dnew)⟩
  rw [upd_ne (Ne.symm M.dne)]
  exact I1.hok.fresh M.new
/-- o.f, o an error held as a value -/
def tErrF (K : PySem.W.Frag) (f : Str) (to : TE) : TE := fun σ H Q => to σ H fun x H1 => ∃ (a C d : Addr) (fs : List (Str × V)) (v : V), x = .ref a ∧ XfC K C ∧ PySem.W.findIn K (.ref C) f = some none ∧ H1 a = some (EV C (some d) a) ∧ H1 d = some (.xd fs) ∧ fs.lookup f = some v ∧ Q v H1
theorem pe_errF {o : Expr} {to : TE} (ho : PE X o to) (hb : attributeBase o f X.env (eval o X.env) = eval o X.env := by rfl) : PE X (.Attribute o f pos) (tErrF X.K f to) := by
  refine ⟨fun pins s σ H Q I h => ?_⟩
  refine attr_of hb (thn (ho.run pins s σ H _ I h) fun u s1 hh => ?_)
  obtain ⟨x, H1, I1, rx, a, C, d, fs, v, ex, T, no, ea, ed, l, q⟩ := hh
  subst ex
  obtain rfl : u = Value.ref a := rx
  obtain ⟨oe, vs, oE, hz, hdat⟩ := ev_at I1.hok ea
  have hx : ObjOk X.prog X.w H1 s1.heap d (.xd fs) := I1.hok d _ ed
  obtain ⟨mA, hns, hr⟩ := hx
  obtain ⟨od, ho, hl⟩ := lookIn_ns hns
  obtain ⟨u, hu, ru⟩ := RelO.some_of (v := v) (o := mA f) (by rw [← l]; exact hr f)
  have J : PySem.W.InstAt s1.heap a oe C (some od) := ⟨oE, hz.1, by unfold PySem.W.notCls; rw [hdat] <;> rfl, by rw [hz.2]; exact ho⟩
  exact HandSPX.exc_get I1.kIn J T.ga T.gg T.exC (PySem.W.findObj_own T.hdC no rfl (by rw [hl, hu])) (handed_of ru) ⟨v, H1, I1.tok _, ru, q⟩
end
/-! ### isinstance -/
structure ErrC (K : PySem.W.Frag) (D : Addr) : Prop where
  cl : (PySem.W.clsIn K D).isSome = true
  hg : PySem.W.findIn K (.ref D) "__getattribute__" = some (some (.builtin "BaseException.__getattribute__"))
  hk : PySem.W.findIn K (.ref D) "__getattr__" = some none
  hs : PySem.W.subIn K (.ref D) (.type "BaseException") = some true
  ha : PySem.W.findIn K (.ref D) "__class__" = some (some (.builtin "object.__class__"))
  hn : PySem.W.specialIn K (.builtin "object.__class__") "__get__" = some (some (.builtin "getset_descriptor.__get__"))
  ht : PySem.W.takesIn K (.builtin "object.__class__") = some true
  hm : PySem.W.mroIn K D (.type "object") = some true
/-- an error of the class D is tracked at a, its dict at d, if any -/
def IsErr (H : Hp) (D a : Addr) : Prop := H a = some (ExO (.ref D) a) ∨ ∃ d fs, H a = some (EV D (some d) a) ∧ H d = some (.xd fs)
theorem is_run {X : Cx} {pins : List (Addr × Obj)} {σ : L2.St} {H : Hp} {s : Shared} {Q : Value → Shared → Prop} {E : Value → Shared → Prop} {A : Around} {D a : Addr} {cv : Value} {b : Bool} {oe : Obj} {od : Option Obj} (C : ErrC X.K D) (I : Inv X pins σ H s) (J : PySem.W.InstAt s.heap a oe D od)
    (e : PySem.W.kitOne X.K (.ref D) cv = some b) (q : ∀ tk, Q (.bool b) { s with toks := tk }) : wpAny (model X.prog X.w) A (call (.builtin "isinstance") [.ref a, cv]) Q E s :=
  PySem.W.kia_one (PySem.W.kitx_exc C.cl C.hg C.hk C.hs C.ha C.hn C.ht C.hm) I.kIn J e (fun z => nomatch z) q
theorem IsErr.inst {X : Cx} {pins : List (Addr × Obj)} {σ : L2.St} {H : Hp} {s : Shared} {D a : Addr} (I : Inv X pins σ H s) (h : IsErr H D a) : ∃ oe od, PySem.W.InstAt s.heap a oe D od := by
  rcases h with e | ⟨d, fs, e, ed⟩
  · obtain ⟨oe, vs, h1, h2, h3⟩ := exO_at I.hok e
    exact ⟨oe, none, h1, h2.1, by unfold PySem.W.notCls; rw [h3] <;> rfl, by rw [h2.2]; trivial⟩
  · obtain ⟨oe, vs, h1, h2, h3⟩ := ev_at I.hok e
    have hx : ObjOk X.prog X.w H s.heap d (.xd fs) := I.hok d _ ed
    obtain ⟨mA, hns, hr⟩ := hx
    obtain ⟨od, ho, hl⟩ := lookIn_ns hns
    exact ⟨oe, some od, h1, h2.1, by unfold PySem.W.notCls; rw [h3] <;> rfl, by rw [h2.2]; exact ho⟩
def rIsErr (K : PySem.W.Frag) : List V → Hp → VK → Prop := fun xs H Q => ∃ (a D : Addr) (c : V) (cv : Value) (b : Bool), xs = [.ref a, c] ∧ ErrC K D ∧ IsErr H D a ∧ ClsV c cv ∧ PySem.W.kitOne K (.ref D) cv = some b ∧ Q (.bl b) H
theorem call_isErr {X : Cx} : CallR X (.builtin "isinstance") (rIsErr X.K) := by
  intro pins s σ H xs us Q I r h
  obtain ⟨a, D, c, cv, b, rfl, C, ie, hc, e, q⟩ := h
  obtain ⟨u1, u2, rfl, r1, r2⟩ := vals2 r
  have e2 := hc.eq r2
  subst e2
  cases (show u1 = Value.ref a from r1)
  obtain ⟨oe, od, J⟩ := ie.inst I
  exact is_run C I J e fun tk => ⟨.bl b, H, I.tok tk, rfl, q⟩
/-- .. of an error that is pinned -/
def rIsPin (K : PySem.W.Frag) (pn : List (Addr × Obj)) : List V → Hp → VK → Prop := fun xs H Q => ∃ (p : Addr × Obj) (D : Addr) (c : V) (cv : Value) (b : Bool), xs = [.ref p.1, c] ∧ p ∈ pn ∧ Zc (.ref D) none p.2 ∧ (∃ vs, p.2.data = .fields vs) ∧ ErrC K D ∧ ClsV c cv ∧ PySem.W.kitOne K (.ref D) cv = some b ∧ Q (.bl b) H
theorem call_isPin {X : Cx} : CallR X (.builtin "isinstance") (rIsPin X.K X.pn) := by
  intro pins s σ H xs us Q I r h
  obtain ⟨p, D, c, cv, b, rfl, hp, hz, ⟨vs, hd⟩, C, hc, e, q⟩ := h
  obtain ⟨u1, u2, rfl, r1, r2⟩ := vals2 r
  have e2 := hc.eq r2
  subst e2
  cases (show u1 = Value.ref p.1 from r1)
  have P := I.pin p (List.mem_append_left _ hp)
  have J : PySem.W.InstAt s.heap p.1 p.2 D none := ⟨P.1, hz.1, by unfold PySem.W.notCls; rw [hd] <;> rfl, by rw [hz.2]; trivial⟩
  exact is_run C I J e fun tk => ⟨.bl b, H, I.tok tk, rfl, q⟩
/-! ### a text, or none of it -/
def wd (t : Str) (b : Bool) : Str := if b then t else ""
theorem wd_le {t : Str} {b : Bool} {n : Nat} (h : t.length ≤ n) : (wd t b).length ≤ n := by
  cases b
  · exact Nat.le_trans (show (("" : Str).length) ≤ 0 by decide) (Nat.zero_le _)
  · exact h
def rTimesB : R2 := fun x y H Q => ∃ (t : Str) (b : Bool), x = .str t ∧ y = .int (if b then 1 else 0) ∧ t.length < 1000 ∧ Q (.str (wd t b)) H
theorem op_timesB {X : Cx} : OpR X (binaryOp .Mult) rTimesB := by
  intro pins s σ H x y v u Q I rx ry h
  obtain ⟨t, b, rfl, rfl, ht, q⟩ := h
  obtain ⟨t1, rfl⟩ := rx
  obtain ⟨t2, rfl⟩ := ry
  cases b with
  | true =>
    refine P.mul_str (n := 1) (by decide) (fun _ z => absurd z (by simp)) (fun _ z => absurd z (by simp)) ?_
    show (Made.val (.str t t1)).post _ s
    exact ⟨.str t, H, I, ⟨_, rfl⟩, q⟩
  | false =>
    refine P.mul_str_none (n := 0) (by decide) (by decide) ?_
    exact ⟨.str "", H, I.tok _, ⟨_, rfl⟩, q⟩
end GL
/-! except clauses with and without a name, one behind the other; defs called in a suite with the error that it holds -/
namespace GL
open PySem PySem.Spec PyProof.Rows L2 PySem.GLE
/-- a clause: its class, the slot of its name if it has one, its suite's reading -/
structure Cls1 where
  c : Value
  i : Option Nat
  ts : Addr → Value → Option Addr → TS
def goEnd (i : Nat) (D : Ends) : Ends := { nx := fun σ H => D.nx (σ.set i none) H, rt := D.rt, bk := fun σ H => D.bk (σ.set i none) H, ct := fun σ H => D.ct (σ.set i none) H }
def runC (q : Cls1) (D : Ends) (a : Addr) (cls : Value) (d : Option Addr) (σ : L2.St) (H : Hp) : Prop :=
  match q.i with
  | none => q.ts a cls d D σ H
  | some i => q.ts a cls d (goEnd i D) (σ.set i (some (.ref a))) H
/-- what the clauses together wish of an error of the body -/
def wCls (K : PySem.W.Frag) (W0 : WX) (D : Ends) : List Cls1 → WX
  | [] => W0
  | q :: r => fun cls d σ H => ∃ b, PySem.W.exmOne K cls q.c = some b ∧ (b = true → ∀ a, H a = none → runC q D a cls d σ H) ∧ (b = false → wCls K W0 D r cls d σ H)
inductive Clauses (X : Cx) : List ExceptHandler → List Cls1 → Prop
  | nil : Clauses X [] []
  | bare {x : Str} {c : Value} {ts : Addr → Value → Option Addr → TS} {b₀ : Stmt} {suite : List Stmt} {np pos' : Pos} {hds : List ExceptHandler} {l : List Cls1} (nm : Names X x c)
      (su : ∀ (a : Addr) (oe : Obj) (cls : Value) (d : Option Addr) (pn : List (Addr × Obj)), Zc cls d oe → (∃ vs, oe.data = .fields vs) → PSs (X.suite a ((a, oe) :: pn)) (b₀ :: suite) (ts a cls d)) (r : Clauses X hds l) :
      Clauses X (.ExceptHandler (some (.Name x np)) none (b₀ :: suite) pos' :: hds) (⟨c, none, ts⟩ :: l)
  | named {x n : Str} {i : Nat} {c : Value} {ts : Addr → Value → Option Addr → TS} {b₀ : Stmt} {suite : List Stmt} {np pos' : Pos} {hds : List ExceptHandler} {l : List Cls1} (nm : Names X x c) (nd : X.N.Nodup) (at_ : X.N[i]? = some n) (ln : X.env.kindOf n = some .local)
      (su : ∀ (a : Addr) (oe : Obj) (cls : Value) (d : Option Addr) (pn : List (Addr × Obj)), Zc cls d oe → (∃ vs, oe.data = .fields vs) → PSs (X.suite a ((a, oe) :: pn)) (b₀ :: suite) (ts a cls d)) (r : Clauses X hds l) :
      Clauses X (.ExceptHandler (some (.Name x np)) (some n) (b₀ :: suite) pos' :: hds) (⟨c, some i, ts⟩ :: l)
section
variable {X : Cx} {body : List Stmt} {h₀ : ExceptHandler} {hds : List ExceptHandler} {l : List Cls1} {pos : Pos} {tb : WX → TS} {W0 : WX}
theorem ps_clauses (hs : X.stack = X.env :: X.outer) (hf : X.env.frame = some X.env.locals) (tk : Takes X W0)
    (hb : ∀ (W : WX) (pn : List (Addr × Obj)) (xe : Value → Shared → Prop), Takes (X.tr pn xe) W → PassesOwn (model X.prog X.w) X.A X.env xe → PSs (X.tr pn xe) body (tb W))
    (hh : Clauses X (h₀ :: hds) l) : PS X (.Try body (h₀ :: hds) [] [] pos) (fun D σ H => tb (wCls X.K W0 D l) D σ H) := by
  refine ⟨fun pins s σ H D I h => ?_⟩
  have ok := I.ok
  have frA : X.A.frames = some (X.env :: X.outer) := by rw [ok.frames, hs]
  refine wpAny_Try_except ?_
  refine wpAny_mono ((hb (wCls X.K W0 D l) (X.pn ++ pins) (fun e s₁ => wpAny (model X.prog X.w) X.A (noteFrame e X.env) (fun _ s₂ => wpAny (model X.prog X.w) X.A (setFlight e none) (fun _ s₃ =>
    wpAny (model X.prog X.w) X.A (handleBy e X.env (h₀ :: hds)) (SP X pins D) X.xe s₃) X.xe s₂) X.xe s₁) (fun u s' xx => ?_) PassesOwn.looking).run [] s σ H D (I.toTry _) h) (fun f s1 sp1 => ?_) (fun e s1 he => he)
  · obtain ⟨a, B, sI, pins', σ', H', cls, d, rfl, J', nb, up, sky, na, os, ag, w⟩ := xx
    have J : Inv X pins σ' H' sI := J'.ofTry ok
    have sky1 : Sky B (X.env :: X.outer) a (Zc cls d) X.env.locals s'.heap := by rw [← hs]; exact sky
    show wpAny (model X.prog X.w) X.A (noteFrame (.ref a) X.env) _ _ _
    refine Sky.land Zc.steady frA hf sky1 fun h3 fl3 up3 => ?_
    have J3 : Inv X pins σ' H' { s' with heap := h3 } := J.landed nb fl3.1 (up.trans up3) os ag
    obtain ⟨oe3, vs3, oa3, zc3, dt3⟩ := fl3.there
    have outF : ∀ {h : Heap} {o : Obj} {vs : Array Value}, h.FunFrames B (X.env :: X.outer) → h.get? a = some o → o.data = .fields vs → a ∉ frs (X.env :: X.outer) := fun {h o vs} ff e dd hm => by
      obtain ⟨_, o', e', hnf⟩ := ff.mem hm
      rw [e] at e'; cases e'
      exact hnf _ dd
    have nfr := outF fl3.2.2.1 oa3 dt3
    have nL : a ≠ X.env.locals := fun z => nfr (List.mem_filterMap.mpr ⟨X.env, List.mem_cons_self, by rw [hf, z]⟩)
    have nF : a ∉ X.fs := fun hm => by
      obtain ⟨e, he, q⟩ := List.mem_filterMap.mp hm
      exact nfr (List.mem_filterMap.mpr ⟨e, List.mem_cons_of_mem _ he, q⟩)
    have S3 := J3.suite oa3 dt3 na nL nF
    have tell : ∀ {x : Str} {c : Value} {np : Pos} {Q : Value → Shared → Prop} {E : Value → Shared → Prop}, Names X x c → Q c { s' with heap := h3 } → wpAny (model X.prog X.w) (X.A.mark (some (.ref a))) (eval (.Name x np) X.env) Q E { s' with heap := h3 } := fun {x c np Q E} nm q => by
      obtain ⟨hg, hdbg, hm | ⟨hm, hv, hnn⟩⟩ := nm
      · exact ld_glob (X := X.suite a ((a, oe3) :: (X.pn ++ pins))) S3 hg hm q hdbg
      · exact ld_blt (X := X.suite a ((a, oe3) :: (X.pn ++ pins))) S3 hg hm hv q hnn hdbg
    have LT : PySem.W.Looks (model X.prog X.w) h3 (typeOf (.ref a)) cls := fun A Q E s k q => wpAny_typeOf_ref (k _ _ oa3) (by rw [zc3.1]; exact q)
    have all : ∀ {hds' : List ExceptHandler} {l' : List Cls1}, Clauses X hds' l' → wCls X.K W0 D l' cls d σ' H' → wpAny (model X.prog X.w) X.A (handleBy (.ref a) X.env hds') (SP X pins D) X.xe { s' with heap := h3 } := by
      intro hds' l' hk
      induction hk with
      | nil =>
        intro w
        refine wpAny_handleBy_nil ?_
        obtain ⟨k1, k2, k3, oe, vs, T, oT, ts', he, hz, hd, h1, hr⟩ := id fl3
        unfold PySem.passOn
        refine wpAny_bind (wpAny_field he hd h1 ?_)
        rw [if_neg (show ¬ ((Value.ref T == Value.none) = true) from by simp)]
        have fin : wpAny (model X.prog X.w) X.A (setFlight (.ref a) X.env.frame) (fun _ s4 => wpAny (model X.prog X.w) X.A (throw (.ref a) : Sem Flow) (SP X pins D) X.xe s4) X.xe { s' with heap := h3 } := by
          rw [hf]
          refine HandSPX.setFlight_upZ fl3 fun h4 hh4 up4 => wpAny_throw (tk _ _ ?_)
          exact ⟨a, B, sI, pins, σ', H', cls, d, rfl, J, nb, (up.trans up3).trans up4, .inr (.inr (by rw [hs]; exact hh4)), na, os, ag, w⟩
        first
          | exact wpAny_bind (wpAny_pure (wpAny_bind fin))
          | exact wpAny_bind fin
      | @bare x c ts b₀ suite np pos' hds2 l2 nm su r ih =>
        intro w
        obtain ⟨b, hb1, yes, no⟩ := w
        refine wpAny_handleBy_cons (codeAny_handlers_test ?_) (by intro q; cases q)
        have LM := PySem.W.exm_one (M := model X.prog X.w) (J3.kIn) LT hb1
        refine tell nm (LM.here ?_)
        cases b with
        | false =>
          show wpAny _ X.A (handleBy (.ref a) X.env hds2) _ _ _
          exact ih (no rfl)
        | true =>
          refine codeAny_handlers_suite ?_
          refine HandSPX.lands_againZ fl3 fun h4 fl4 up4 => ?_
          have J4 : Inv X pins σ' H' { s' with heap := h4 } := J.landed nb fl4.1 ((up.trans up3).trans up4) os ag
          obtain ⟨oe4, vs4, oa4, zc4, dt4⟩ := fl4.there
          have S4 := J4.suite oa4 dt4 na nL nF
          refine wpAny_mono ((su a oe4 cls d (X.pn ++ pins) zc4 ⟨_, dt4⟩).run [] _ _ H' _ S4 (yes rfl a na)) (fun f s6 sp6 => ?_) (fun _ _ z => False.elim z)
          cases f with
          | ret u =>
            obtain ⟨v6, σ6, H6, S6, r6, q6⟩ := sp6
            exact ⟨_, _, _, S6.unsuite ok, r6, q6⟩
          | next | brk | cont =>
            obtain ⟨σ6, H6, S6, q6⟩ := sp6
            exact ⟨_, _, S6.unsuite ok, q6⟩
      | @named x n i c ts b₀ suite np pos' hds2 l2 nm nd at_ ln su r ih =>
        intro w
        obtain ⟨b, hb1, yes, no⟩ := w
        refine wpAny_handleBy_cons (codeAny_handlers_test ?_) (by intro q; cases q)
        have LM := PySem.W.exm_one (M := model X.prog X.w) (J3.kIn) LT hb1
        refine tell nm (LM.here ?_)
        cases b with
        | false =>
          show wpAny _ X.A (handleBy (.ref a) X.env hds2) _ _ _
          exact ih (no rfl)
        | true =>
          refine codeAny_handlers_suite_as ?_
          refine HandSPX.lands_againZ fl3 fun h4 fl4 up4 => ?_
          have J4 : Inv X pins σ' H' { s' with heap := h4 } := J.landed nb fl4.1 ((up.trans up3).trans up4) os ag
          obtain ⟨oe4, vs4, oa4, zc4, dt4⟩ := fl4.there
          have S4 := J4.suite oa4 dt4 na nL nF
          refine store_ok (X := X.suite a ((a, oe4) :: (X.pn ++ pins))) (v := .ref a) S4 nd at_ (.inl ln) rfl (fun s5 S5 => ?_) (.inr ln)
          refine wpAny_mono ((su a oe4 cls d (X.pn ++ pins) zc4 ⟨_, dt4⟩).run [] s5 _ H' _ S5 (yes rfl a na)) (fun f s6 sp6 => ?_) (fun _ _ z => False.elim z)
          have end_ : ∀ {σ6 : L2.St} {H6 : Hp} {Q : Shared → Prop}, Inv (X.suite a ((a, oe4) :: (X.pn ++ pins))) [] σ6 H6 s6 → (∀ s7, Inv X pins (σ6.set i none) H6 s7 → Q s7) →
              wpAny (model X.prog X.w) X.A (do bindName X.env n .none; unbindBehindTheSuite X.env n pos') (fun _ s7 => Q s7) X.xe s6 := fun {σ6 H6 Q} S6 hq => gone_ok (S6.unsuite ok) nd at_ ln hq
          cases f with
          | ret u =>
            obtain ⟨v6, σ6, H6, S6, r6, q6⟩ := sp6
            exact end_ S6 fun s7 J7 => ⟨_, _, _, J7, r6, q6⟩
          | next | brk | cont =>
            obtain ⟨σ6, H6, S6, q6⟩ := sp6
            exact end_ S6 fun s7 J7 => ⟨_, _, J7, q6⟩
    exact all hh w
  · cases f with
    | next =>
      obtain ⟨σ', H', J', q⟩ := sp1
      exact wpAny_execs_nil ⟨σ', H', J'.ofTry ok, q⟩
    | ret u =>
      obtain ⟨v, σ', H', J', r, q⟩ := sp1
      exact ⟨v, σ', H', J'.ofTry ok, r, q⟩
    | brk | cont =>
      obtain ⟨σ', H', J', q⟩ := sp1
      exact ⟨σ', H', J'.ofTry ok, q⟩
end
/-- a def that gets the error that is handled where it is called -/
structure FnE (P : Program) (w : World) (K : PySem.W.Frag) (mg : Str → Option Value) (base : Heap) (k : Nat) (f : Addr) (fd : FuncData) (ps : List Str) (sp : Addr × Obj → Sp) : Prop where
  len : ∀ p vs H Q E, sp p vs H Q E → vs.length = ps.length
  go : ∀ {A : Around} {outer : List Env} {s : Shared} {H : Hp} {args : Args} {us : List Value} {vs : List V} {Q : VK} {E : XK} {p : Addr × Obj}, L2H.RoomH k A → L2H.PinOk outer H s p → Env0 P w K mg base A outer s H → BindsTo s fd args (ps.zip us) → Vals vs us → sp p vs H Q E →
    codeAny (model P w) A (.call (.ref f) args) (CR CX0 outer P w H s Q E) s
theorem fnE_mk {P : Program} {w : World} {K : PySem.W.Frag} {mg : Str → Option Value} {base : Heap} {k : Nat} {f : Addr} {fd : FuncData} {ps N : List Str} {sp : Addr × Obj → Sp} {x qual : Str} {st : Stmt} (F : Fun K x qual st f fd) (S : FnScope N ps (defScope st)) (len : ∀ p vs H Q E, sp p vs H Q E → vs.length = ps.length)
    (body : ∀ (cdv : Value) (A : Around) (outer : List Env) (s : Shared) (H : Hp) (vs : List V) (Q : VK) (E : XK) (p : Addr × Obj), L2H.RoomH k (A.deeper (envOfC qual (defScope st) s.heap.objs.size f cdv)) → sp p vs H Q E →
      ∃ t, PSs (L2H.cxH CX0 P w K mg base N qual (defScope st) f cdv A outer s H E p) (defBody st) t ∧ t { nx := fun _ H' => Q .non H', rt := Q } (start N vs) H) : FnE P w K mg base (k + 1) f fd ps sp := by
  obtain ⟨oc, od, kV, doc, pm, an, cdv, ct, osl, eF, at_, cR⟩ := F.ex
  subst eF
  constructor
  · exact len
  intro A outer s H args us vs Q E p room pin e0 bi vals asked
  have inK : K.In s.heap := e0.mod.kin.keeps (fun b o q => (e0.bs b o q).1)
  have line : s.heap.NoLimit := e0.mod.nolimit.keeps (fun b o q => (e0.bs b o q).1)
  have kinds : ∀ y ∈ ps.zip us, (defScope st).names.lookup y.1 = some .local ∨ ((defScope st).names.lookup y.1 = some .cell ∧ ((cellsFrom (s.heap.objs.size + 1) (defScope st).names []).lookup y.1).isSome = true) := by
    intro ⟨n, v⟩ hy
    cases S.par n (List.of_mem_zip hy).1 with
    | inl q => exact Or.inl q
    | inr q => exact Or.inr ⟨q, PySem.W.cellsFrom_some _ _ _ (Or.inl q)⟩
  apply codeAny_call_function room.depth (inK _ _ at_) rfl S.co S.gen rfl (PySem.W.codeRec_of inK cR)
  apply bi
  refine wpAny_newFunctionEnv_cells S.kind kinds (fun env eE s1 x1 => ?_)
  subst eE
  obtain ⟨t, rule, q⟩ := body cdv A outer s H vs Q E p (room.deeper _) asked
  have I0 := L2H.inv_startH (CX := CX0) (E := E) S pin e0 (len _ _ _ _ _ asked) vals x1
  refine ⟨line.keeps x1.toInCall.keep, codeAny_func (wpAny_mono (rule.run [] s1 _ H _ I0 q) (fun fl s' done => ?_) (fun _ _ z => z))⟩
  cases fl with
  | ret u => obtain ⟨v, _, H', J, rv, qv⟩ := done; exact ⟨v, H', J.os, J.bare, J.base, J.hok, rv, qv⟩
  | next => obtain ⟨_, H', J, qv⟩ := done; exact ⟨V.non, H', J.os, J.bare, J.base, J.hok, rfl, qv⟩
  | brk => obtain ⟨_, _, _, z⟩ := done; exact z.elim
  | cont => obtain ⟨_, _, _, z⟩ := done; exact z.elim
structure HasE (P : Program) (w : World) (K : PySem.W.Frag) (mg : Str → Option Value) (base : Heap) (x : Str) (k : Nat) (ps : List Str) (sp : Addr × Obj → Sp) : Prop where
  ex : ∃ f fd, FnE P w K mg base k f fd ps sp ∧ mg x = some (.ref f) ∧ PySem.W.keepIn K (.ref f) = true ∧ Binds K fd ps []
section
variable {X : Cx} {k : Nat} {ps : List Str} {sp : Addr × Obj → Sp} {E : XK} {x : Str} {p pos : Pos} {e : Expr} {es : List Expr} {t : TA}
theorem pe_callE {a : Addr} {oe : Obj} {pn : List (Addr × Obj)} (h : HasE X.prog X.w X.K X.mg X.base x k ps sp) (hr : L2H.RoomH k (X.suite a ((a, oe) :: pn)).A) (hx : Passes CX0 (X.suite a ((a, oe) :: pn)) E) (ha : PA (X.suite a ((a, oe) :: pn)) (e :: es) t) (hg : Gl X x := by exact rfl)
    (hdb : (x == ("__debug__" : Str)) = false := by decide) (he : starEach (e :: es) X.env = (false, eval e X.env) :: starEach es X.env := by rfl) (hpl : (backTo pos (starEach es X.env)).any (·.1) = false := by rfl) :
    PE (X.suite a ((a, oe) :: pn)) (.Call (.Name x p) (e :: es) [] pos) (tCall (sp (a, oe)) [] E t) := by
  obtain ⟨f, fd, F, m, kp, b⟩ := h.ex
  constructor
  intro pins s σ H Q I q
  apply wpAny_Call_Name_kw
  apply ld_glob I hg m _ hdb
  refine PySem.W.callWith_K (h₀ := X.base) I.ok.mod.kin kp (thn (ha.run pos pins s σ H _ I q) (fun us s1 z => ?_)) he hpl
  obtain ⟨vs, H1, I1, r, q1⟩ := z
  rw [List.append_nil] at q1
  refine ⟨I1.kIn, ?_⟩
  have n1 : (us ++ []).length = ps.length := by rw [List.append_nil, ← r.length]; exact F.len _ _ _ _ _ q1
  have b1 := b s1 us I1.kIn n1
  rw [List.append_nil] at b1
  have P1 := I1.pin (a, oe) (List.mem_append_left _ List.mem_cons_self)
  have pin : L2H.PinOk X.stack H1 s1 (a, oe) := ⟨P1.1, P1.2.1, fun hm => (List.mem_cons.mp (I1.stkSub a hm)).elim P1.2.2.1 P1.2.2.2.1, P1.2.2.2.2⟩
  refine wpAny_call (codeAny_mono (F.go hr pin I1.env0 b1 r q1) fun res s' z => ?_)
  match res, z with
  | .error _, z => exact hx pins σ H1 s1 _ s' I1 z
  | .ok (.ret _), z => exact I1.after z
end
end GL
/-! repr of data in which a dict of one int to an int may stand -/
namespace GL
open PySem PySem.Spec PyProof.Rows L2
mutual
inductive Dq (K : PySem.W.Frag) (H : Hp) : V → PyData → Prop
  | dp {v : V} {d : PyData} : Dp K H v d → okD d = true → Dq K H v d
  | one {a : Addr} {k n : Int} : H a = some (.dK [(.inl k, .int n)]) → k.natAbs < 10 ^ 4300 → n.natAbs < 10 ^ 4300 → Dq K H (.ref a) (.dict [(.int k, .int n)])
  | emp {a : Addr} : H a = some (.dK []) → Dq K H (.ref a) (.dict [])
  | lst {a : Addr} {xs : List V} {ds : List PyData} : SqL K H a xs → DqAll K H xs ds → Dq K H (.ref a) (.list ds)
  | tup {a : Addr} {xs : List V} {ds : List PyData} : SqT K H a xs → DqAll K H xs ds → Dq K H (.ref a) (.tuple ds)
inductive DqAll (K : PySem.W.Frag) (H : Hp) : List V → List PyData → Prop
  | nil : DqAll K H [] []
  | cons {v : V} {vs : List V} {d : PyData} {ds : List PyData} : Dq K H v d → DqAll K H vs ds → DqAll K H (v :: vs) (d :: ds)
end
section
variable {X : Cx} {pins : List (Addr × Obj)} {σ : L2.St} {H : Hp} {s : Shared} {prog : Program} {w : World}
theorem emp_at (I : Inv X pins σ H s) {a : Addr} (e : H a = some (.dK [])) : (a == sysModules) = false ∧ ∃ o ep, s.heap.get? a = some o ∧ o.cls = .type "dict" ∧ o.data = .dict #[] ep := by
  obtain ⟨_, sys, vs, rel, dd⟩ := dk_of I.hok e
  obtain ⟨o, es, ep, ho, hx, hdat, _, hp, _⟩ := dd
  cases rel
  generalize he : es.toList = l at hp
  cases hp
  have : es = #[] := by rw [← Array.toArray_toList (xs := es), he]
  subst this
  exact ⟨sys, o, ep, ho, hx.1, hdat⟩
mutual
theorem Dq.reads (I : Inv X pins σ H s) : ∀ {d : PyData} {v : V} {u : Value}, Dq X.K H v d → RelV v u → ∃ as, Reads s.heap u d as
  | _, _, _, .dp h _, r => Dp.reads I _ _ _ h r
  | _, _, u, .one (k := k) (n := n) e k1 n1, r => by
    cases (show u = .ref _ from r)
    obtain ⟨_, _, vs, rel, dd⟩ := dk_of I.hok e
    obtain ⟨o, es, ep, ho, hx, hdat, _, hp, _⟩ := dd
    cases rel with
    | cons r1 rs =>
      cases rs
      generalize he : es.toList = l at hp
      cases hp with
      | cons p1 p2 ps =>
        cases ps
        rename_i q _ en
        obtain ⟨e1, tn, e3⟩ := r1
        have pk : keyIs (.inl k) en.key = true := by
          have z : keyIs q.1 en.key = true := p1
          rw [← show (Sum.inl k : Key) = q.1 from e1] at z
          exact z
        obtain ⟨i, t, z1, z2⟩ | ⟨x, t, z1, z2⟩ := keyIs_shape pk
        · cases z1
          refine ⟨_, Reads.dict (as := []) (bs := []) ho hx.1 hdat ?_ ?_⟩
          · rw [he]
            show ReadsAll _ [en.key] [_] _
            rw [z2]
            exact ReadsAll.cons (Reads.int k t) ReadsAll.nil
          · rw [he]
            show ReadsAll _ [en.val] [_] _
            rw [p2, e3]
            exact ReadsAll.cons (Reads.int n tn) ReadsAll.nil
        · cases z1
  | _, _, u, .emp e, r => by
    cases (show u = .ref _ from r)
    obtain ⟨_, o, ep, ho, hc, hd⟩ := emp_at I e
    exact ⟨_, Reads.dict (as := []) (bs := []) (kvs := []) ho hc hd ReadsAll.nil ReadsAll.nil⟩
  | _, _, u, .lst hs ha, r => by
    cases (show u = .ref _ from r)
    obtain ⟨its, rv, ⟨o, n, ho, hc, _, hd⟩, _⟩ := I.list hs
    obtain ⟨as, hr⟩ := Dq.readsAll I ha rv
    exact ⟨_, Reads.list ho hc hd hr⟩
  | _, _, u, .tup hs ha, r => by
    cases (show u = .ref _ from r)
    obtain ⟨its, rv, ⟨o, ho, hc, n, hd⟩, _⟩ := I.tuple hs
    obtain ⟨as, hr⟩ := Dq.readsAll I ha rv
    exact ⟨_, Reads.tuple ho hc hd hr⟩
theorem Dq.readsAll (I : Inv X pins σ H s) : ∀ {ds : List PyData} {vs : List V} {us : List Value}, DqAll X.K H vs ds → Vals vs us → ∃ as, ReadsAll s.heap us ds as
  | _, _, _, .nil, .nil => ⟨_, ReadsAll.nil⟩
  | _, _, _, .cons h1 h2, .cons r1 r2 => by
    obtain ⟨as, q1⟩ := Dq.reads I h1 r1
    obtain ⟨bs, q2⟩ := Dq.readsAll I h2 r2
    exact ⟨_, ReadsAll.cons q1 q2⟩
end
mutual
theorem Dq.rep (I : Inv X pins σ H s) (nd : s.heap.NoDigits) : ∀ {d : PyData} {v : V} {u : Value}, Dq X.K H v d → RelV v u → d.shown.length ≤ sizeLine → ∃ bs, ReadAtMost s.heap d.depth bs ∧ ReprK prog w bs s.heap d.depth u d.shown
  | _, _, _, .dp h ok, r, sz => by
    obtain ⟨as, q⟩ := Dp.reads I _ _ _ h r
    exact rep_of nd q ok sz
  | _, _, u, .one (a := a) (k := k) (n := n) e k1 n1, r, sz => by
    cases (show u = .ref _ from r)
    obtain ⟨as, rd⟩ := Dq.reads I (.one e k1 n1) (show RelV (.ref a) (.ref a) from rfl)
    obtain ⟨_, sys, _⟩ := dk_of I.hok e
    obtain ⟨o, es, ep, ho, hc, hdat, h4, h5⟩ : ∃ o es ep, s.heap.get? a = some o ∧ o.cls = .type "dict" ∧ o.data = .dict es ep ∧ ReadsAll s.heap (es.toList.map (·.key)) [.int k] [] ∧ ReadsAll s.heap (es.toList.map (·.val)) [.int n] [] := by
      cases rd with
      | dict h1 h2 h3 h4 h5 =>
        refine ⟨_, _, _, h1, h2, h3, ?_, ?_⟩
        · generalize hz : List.map _ _ = zs at h4
          cases h4 with
          | cons a1 a2 =>
            cases a1
            cases a2
            exact ReadsAll.cons (Reads.int _ _) ReadsAll.nil
        · generalize hz : List.map _ _ = zs at h5
          cases h5 with
          | cons a1 a2 =>
            cases a1
            cases a2
            exact ReadsAll.cons (Reads.int _ _) ReadsAll.nil
    have szd : (dictText (PyData.shownKv [(.int k, .int n)])).length ≤ sizeLine := by simpa only [PyData.shown] using sz
    obtain ⟨b1, f1, r1⟩ := rep_all (prog := prog) (w := w) nd h4 (by simp only [okAll, okD, decide_eq_true k1, Bool.and_self]) (fun t m => by
      obtain ⟨p, hp, hl⟩ := PyData.shownKv_key_le [(.int k, .int n)] t m
      exact Nat.le_trans hl (Nat.le_trans (dictText_mem_le hp) szd))
    obtain ⟨b2, f2, r2⟩ := rep_all (prog := prog) (w := w) nd h5 (by simp only [okAll, okD, decide_eq_true n1, Bool.and_self]) (fun t m => by
      obtain ⟨p, hp, hl⟩ := PyData.shownKv_val_le [(.int k, .int n)] t m
      exact Nat.le_trans hl (Nat.le_trans (dictText_mem_le hp) szd))
    have rd2 : Reads s.heap (.ref a) (.dict [(.int k, .int n)]) _ := .dict ho hc hdat h4 h5
    have out : a ∉ b1 ++ b2 := not_mem_of_deeper rd2 (by simp only [PyData.depth, PyData.depthKv, PyData.depthAll]; omega) ((f1.mono (m := 0) (by simp [PyData.depth, PyData.depthAll])).append (f2.mono (m := 0) (by simp [PyData.depth, PyData.depthAll])))
    refine ⟨a :: (b1 ++ b2), ReadAtMost.cons rd2 (Nat.le_refl _) ((f1.append f2).mono (by simp [PyData.depth, PyData.depthAll])), ?_⟩
    have ent := ReprEntriesK.of_two es.toList _ _ (r1.more_le (fun b m => List.mem_append_left b2 m) (Nat.le_refl _)) (r2.more_le (d' := PyData.depthAll [PyData.int k]) (fun b m => List.mem_append_right b1 m) (by simp [PyData.depth, PyData.depthAll]))
    have fin := ReprK.dict ho hc hdat sys out ent
    have e1 : PyData.depth (.dict [(.int k, .int n)]) = PyData.depthAll [PyData.int k] + 1 := by simp [PyData.depth, PyData.depthKv, PyData.depthAll]
    rw [e1]
    exact fin
  | _, _, u, .emp (a := a) e, r, sz => by
    cases (show u = .ref _ from r)
    obtain ⟨sys, o, ep, ho, hc, hd⟩ := emp_at I e
    have rd2 : Reads s.heap (.ref a) (.dict []) _ := .dict (as := []) (bs := []) (kvs := []) ho hc hd ReadsAll.nil ReadsAll.nil
    refine ⟨[a], ReadAtMost.cons rd2 (Nat.le_refl _) (fun _ z => nomatch z), ?_⟩
    have fin := ReprK.dict (prog := prog) (w := w) (as := []) (d := 0) (ps := []) ho hc hd sys (by simp) ReprEntriesK.nil
    have e1 : PyData.depth (.dict []) = 0 + 1 := by simp [PyData.depth, PyData.depthKv]
    rw [e1]
    exact fin
  | _, _, u, .lst (a := a) (xs := xs) (ds := ds) hs ha, r, sz => by
    cases (show u = .ref _ from r)
    obtain ⟨its, rv, ⟨o, n, ho, hc, _, hd⟩, _⟩ := I.list hs
    have sz2 : (listText (PyData.shownAll ds)).length ≤ sizeLine := by simpa only [PyData.shown] using sz
    obtain ⟨bs, few, all⟩ := Dq.repAll I nd ha rv (fun t m => Nat.le_trans (listText_mem_le m) sz2)
    obtain ⟨as, rr⟩ := Dq.readsAll I ha rv
    have rd : Reads s.heap (.ref a) (.list ds) _ := Reads.list ho hc hd rr
    have out : a ∉ bs := not_mem_of_deeper rd (by simp only [PyData.depth]; omega) few
    refine ⟨a :: bs, ReadAtMost.cons rd (by simp only [PyData.depth]; omega) few, ?_⟩
    simp only [PyData.depth, PyData.shown]
    cases its with
    | nil =>
      cases rr
      simp only [PyData.shownAll, listText_nil]
      exact .listEmpty ho hc hd
    | cons x l => exact .list ho hc hd out (by simpa using all.length_eq) (fun i y e => all.item i y (by simpa using e))
  | _, _, u, .tup (a := a) (xs := xs) (ds := ds) hs ha, r, sz => by
    cases (show u = .ref _ from r)
    obtain ⟨its, rv, ⟨o, ho, hc, n, hd⟩, _⟩ := I.tuple hs
    have sz2 : (tupleText (PyData.shownAll ds)).length ≤ sizeLine := by simpa only [PyData.shown] using sz
    obtain ⟨bs, few, all⟩ := Dq.repAll I nd ha rv (fun t m => Nat.le_trans (tupleText_mem_le m) sz2)
    obtain ⟨as, rr⟩ := Dq.readsAll I ha rv
    have rd : Reads s.heap (.ref a) (.tuple ds) _ := Reads.tuple ho hc hd rr
    have out : a ∉ bs := not_mem_of_deeper rd (by simp only [PyData.depth]; omega) few
    refine ⟨a :: bs, ReadAtMost.cons rd (by simp only [PyData.depth]; omega) few, ?_⟩
    simp only [PyData.depth, PyData.shown]
    exact .tuple ho hc hd out all
theorem Dq.repAll (I : Inv X pins σ H s) (nd : s.heap.NoDigits) : ∀ {ds : List PyData} {vs : List V} {us : List Value}, DqAll X.K H vs ds → Vals vs us → (∀ t ∈ PyData.shownAll ds, t.length ≤ sizeLine) →
    ∃ bs, ReadAtMost s.heap (PyData.depthAll ds) bs ∧ ReprAllK prog w bs s.heap (PyData.depthAll ds) us (PyData.shownAll ds)
  | _, _, _, .nil, .nil, _ => ⟨[], (fun _ z => nomatch z), by simp only [PyData.shownAll]; exact .nil⟩
  | _, _, _, .cons (d := d) (ds := ds) h1 h2, .cons r1 r2, sz => by
    obtain ⟨b1, f1, k1⟩ := Dq.rep I nd h1 r1 (sz _ (by simp only [PyData.shownAll]; exact List.mem_cons_self ..))
    obtain ⟨b2, f2, k2⟩ := Dq.repAll I nd h2 r2 (fun t m => sz t (by simp only [PyData.shownAll]; exact List.mem_cons_of_mem _ m))
    refine ⟨b1 ++ b2, (f1.mono (by simp only [PyData.depthAll]; omega)).append (f2.mono (by simp only [PyData.depthAll]; omega)), ?_⟩
    simp only [PyData.depthAll, PyData.shownAll]
    exact .cons ((k1.more fun b m => List.mem_append_left _ m).level_le (by omega)) (k2.more_le (fun b m => List.mem_append_right _ m) (by omega))
end
end
section
variable {X : Cx} {pins : List (Addr × Obj)} {σ : L2.St} {H : Hp} {s : Shared}
theorem repr_dq (I : Inv X pins σ H s) (nd : s.heap.NoDigits) {A : Around} {E : Value → Shared → Prop} {Q : Value → Shared → Prop} {a : Addr} {d : PyData} (h : Dq X.K H (.ref a) d) (sz : d.shown.length ≤ sizeLine) (hg : A.guards = some []) (hu : A.units + (d.depth + 3) < cLine)
    (hQ : ∀ h' u tk, (∀ b o, s.heap.get? b = some o → h'.get? b = some o) → Q (.str d.shown u) { s with heap := h', toks := tk }) : wpAny (model X.prog X.w) A (call (.builtin "repr") [.ref a]) Q E s := by
  cases h with
  | dp h ok =>
    obtain ⟨as, q⟩ := Dp.reads I _ _ _ h (show RelV (.ref a) (.ref a) from rfl)
    exact repr_any nd q ok sz hg hu hQ
  | one e k1 n1 =>
    rename_i k n
    obtain ⟨as, rd⟩ := Dq.reads I (.one e k1 n1) (show RelV (.ref a) (.ref a) from rfl)
    obtain ⟨_, sys, _⟩ := dk_of I.hok e
    obtain ⟨o, es, ep, ho, hc, hdat, h4, h5⟩ : ∃ o es ep, s.heap.get? a = some o ∧ o.cls = .type "dict" ∧ o.data = .dict es ep ∧ ReadsAll s.heap (es.toList.map (·.key)) [.int k] [] ∧ ReadsAll s.heap (es.toList.map (·.val)) [.int n] [] := by
      cases rd with
      | dict h1 h2 h3 h4 h5 =>
        refine ⟨_, _, _, h1, h2, h3, ?_, ?_⟩
        · generalize hz : List.map _ _ = zs at h4
          cases h4 with
          | cons a1 a2 =>
            cases a1
            cases a2
            exact ReadsAll.cons (Reads.int _ _) ReadsAll.nil
        · generalize hz : List.map _ _ = zs at h5
          cases h5 with
          | cons a1 a2 =>
            cases a1
            cases a2
            exact ReadsAll.cons (Reads.int _ _) ReadsAll.nil
    have szd : (dictText (PyData.shownKv [(.int k, .int n)])).length ≤ sizeLine := by simpa only [PyData.shown] using sz
    obtain ⟨b1, f1, r1⟩ := rep_all (prog := X.prog) (w := X.w) nd h4 (by simp only [okAll, okD, decide_eq_true k1, Bool.and_self]) (fun t m => by
      obtain ⟨p, hp, hl⟩ := PyData.shownKv_key_le [(.int k, .int n)] t m
      exact Nat.le_trans hl (Nat.le_trans (dictText_mem_le hp) szd))
    obtain ⟨b2, f2, r2⟩ := rep_all (prog := X.prog) (w := X.w) nd h5 (by simp only [okAll, okD, decide_eq_true n1, Bool.and_self]) (fun t m => by
      obtain ⟨p, hp, hl⟩ := PyData.shownKv_val_le [(.int k, .int n)] t m
      exact Nat.le_trans hl (Nat.le_trans (dictText_mem_le hp) szd))
    have rd2 : Reads s.heap (.ref a) (.dict [(.int k, .int n)]) _ := .dict ho hc hdat h4 h5
    have out : a ∉ b1 ++ b2 := not_mem_of_deeper rd2 (by simp only [PyData.depth, PyData.depthKv, PyData.depthAll]; omega) ((f1.mono (m := 0) (by simp [PyData.depth, PyData.depthAll])).append (f2.mono (m := 0) (by simp [PyData.depth, PyData.depthAll])))
    have ent := ReprEntriesK.of_two es.toList _ _ (r1.more_le (fun b m => List.mem_append_left b2 m) (Nat.le_refl _)) (r2.more_le (d' := PyData.depthAll [PyData.int k]) (fun b m => List.mem_append_right b1 m) (by simp [PyData.depth, PyData.depthAll]))
    have dz : PyData.depthAll [PyData.int k] = 0 := by simp [PyData.depth, PyData.depthAll]
    have ent : ReprEntriesK X.prog X.w (b1 ++ b2) s.heap (PyData.depthAll [PyData.int k]) es.toList [PyData.shown (.int k) ++ ": " ++ PyData.shown (.int n)] := by simp only [PyData.shownAll, List.zipWith] at ent; exact ent
    refine call_repr_slot (by omega) (T := "dict") (idr := "dict.__repr__") ⟨o, ho, hc⟩ F.slot_dict_repr ?_
    exact call_dict_reprK ho hc hdat sys out ent hg (fun b _ => Clear.nil b) (by show A.units + 1 + (PyData.depthAll [PyData.int k] + 1) < cLine; rw [dz]; omega) (fun _ _ e => e) (fun h' u tk hk => ⟨_, _, rfl, by have z := hQ h' u tk hk; simp only [PyData.shown, PyData.shownKv] at z; exact z⟩) (by simp only [PyData.shownKv] at szd; exact szd)
  | emp e =>
    obtain ⟨sys, o, ep, ho, hc, hd⟩ := emp_at I e
    refine call_repr_slot (by omega) (T := "dict") (idr := "dict.__repr__") ⟨o, ho, hc⟩ F.slot_dict_repr ?_
    exact call_dict_reprK (as := []) (d := 0) (ps := []) (prog := X.prog) (w := X.w) ho hc hd sys (by simp) ReprEntriesK.nil hg (fun b _ => Clear.nil b) (by show A.units + 1 + (0 + 1) < cLine; omega) (fun _ _ e => e) (fun h' u tk hk => ⟨_, _, rfl, by have z := hQ h' u tk hk; simp only [PyData.shown, PyData.shownKv] at z; exact z⟩) (by simpa only [PyData.shown, PyData.shownKv] using sz)
  | lst hs ha =>
    rename_i xs ds
    obtain ⟨its, rv, ⟨o, n, ho, hc, _, hd⟩, _⟩ := I.list hs
    have sz2 : (listText (PyData.shownAll ds)).length ≤ sizeLine := by simpa only [PyData.shown] using sz
    obtain ⟨bs, few, all⟩ := Dq.repAll (prog := X.prog) (w := X.w) I nd ha rv (fun t m => Nat.le_trans (listText_mem_le m) sz2)
    obtain ⟨as, rr⟩ := Dq.readsAll I ha rv
    have rd : Reads s.heap (.ref a) (.list ds) _ := Reads.list ho hc hd rr
    have out : a ∉ bs := not_mem_of_deeper rd (by simp only [PyData.depth]; omega) few
    simp only [PyData.depth] at hu
    simp only [PyData.shown] at hQ
    cases its with
    | nil =>
      cases rr
      exact repr_of_reads' (.list ho hc hd .nil) (by decide +kernel) (fun z => absurd z (by decide +kernel)) hg (by show A.units + 2 < cLine; omega) (fun _ _ e => e) (fun h' u tk hk => by simpa only [PyData.shown, PyData.shownAll] using hQ h' u tk hk) (by simpa only [PyData.shown] using sz2)
    | cons x l =>
      refine call_repr_slot (by omega) (T := "list") (idr := "list.__repr__") ⟨o, ho, hc⟩ F.slot_list_repr.toG ?_
      exact call_list_reprK ho hc hd out (by simpa using all.length_eq) (fun i y e => all.item i y (by simpa using e)) hg (fun b _ => Clear.nil b) (by show A.units + 1 + (PyData.depthAll ds + 1) < cLine; omega) (fun _ _ e => e) (fun h' u tk hk => ⟨_, _, rfl, hQ h' u tk hk⟩) sz2
  | tup hs ha =>
    rename_i xs ds
    obtain ⟨its, rv, ⟨o, ho, hc, n, hd⟩, _⟩ := I.tuple hs
    have sz2 : (tupleText (PyData.shownAll ds)).length ≤ sizeLine := by simpa only [PyData.shown] using sz
    obtain ⟨bs, few, all⟩ := Dq.repAll (prog := X.prog) (w := X.w) I nd ha rv (fun t m => Nat.le_trans (tupleText_mem_le m) sz2)
    obtain ⟨as, rr⟩ := Dq.readsAll I ha rv
    have rd : Reads s.heap (.ref a) (.tuple ds) _ := Reads.tuple ho hc hd rr
    have out : a ∉ bs := not_mem_of_deeper rd (by simp only [PyData.depth]; omega) few
    simp only [PyData.depth] at hu
    simp only [PyData.shown] at hQ
    refine call_repr_slot (by omega) (T := "tuple") (idr := "tuple.__repr__") ⟨o, ho, hc⟩ F.slot_tuple_repr ?_
    exact call_tuple_reprK ho hc hd out all hg (fun b _ => Clear.nil b) (by show A.units + 1 + (PyData.depthAll ds + 1) < cLine; omega) (fun _ _ e => e) (fun h' u tk hk => ⟨_, _, rfl, hQ h' u tk hk⟩) sz2
end
/-- repr(x), x an atom or data of any form -/
def rReprQ (K : PySem.W.Frag) : List V → Hp → VK → Prop := fun xs H Q => ∃ (x : V) (d : PyData), xs = [x] ∧ ((Dp K H x d ∧ d.showable = true ∧ d.hasDict = false) ∨ ∃ a, x = .ref a ∧ Dq K H x d) ∧ d.depth ≤ 20 ∧ d.shown.length ≤ sizeLine ∧ Q (.str d.shown) H
theorem call_reprQ {X : Cx} (dig : PySem.W.nsIn X.K cStatics "sys.int_max_str_digits" = some none) (hg : Gd X.A) (hu : X.A.units + 64 < cLine) : CallR X (.builtin "repr") (rReprQ X.K) := by
  intro pins s σ H xs us Q I r h
  obtain ⟨x, d, rfl, hd, dp, sz, q⟩ := h
  rcases hd with ⟨h1, h2, h3⟩ | ⟨a, rfl, hd⟩
  · exact call_repr hg hu pins s σ H [x] us Q I r ⟨x, d, rfl, h1, h2, h3, dp, sz, q⟩
  · obtain ⟨u, rfl, r1⟩ := vals1 r
    cases (show u = Value.ref a from r1)
    exact repr_dq I (big_base dig I) hd sz hg (by omega) (fun h' u tk hk => ⟨.str _, H, I.kept hk, ⟨_, rfl⟩, q⟩)
end GL
/-! small values of any kind whose repr is asked -/
namespace GL
open PySem PySem.Spec PyProof.Rows L2
theorem ofS_ok (s : String) : PyData.strOk (Str.ofString s) = true := by
  unfold PyData.strOk
  rw [Str.ofString_eq_toList]
  rw [Array.all_eq_true]
  intro i hi
  simp only [List.getElem_toArray, List.getElem_map, decide_eq_true_eq]
  have v := (s.toList[i]'(by simpa using hi)).valid
  generalize s.toList[i]'(by simpa using hi) = c at *
  rcases v with h | ⟨_, h⟩
  · exact Nat.lt_of_lt_of_le h (by decide)
  · exact h
theorem app_ok {x y : Str} (hx : PyData.strOk x = true) (hy : PyData.strOk y = true) : PyData.strOk (x ++ y) = true := by
  unfold PyData.strOk at *
  show Array.all (x.cps ++ y.cps) _ = true
  rw [Array.all_append, hx, hy]
  rfl
section
variable {K : PySem.W.Frag} {H H' : Hp}
theorem sqL_same {a : Addr} {xs : List V} (h : SqL K H a xs) (s : Same H H') : SqL K H' a xs := by
  rcases h with (z | ⟨o, z⟩) | z
  · exact .inl (.inl (s _ _ z))
  · exact .inl (.inr ⟨o, s _ _ z⟩)
  · exact .inr z
theorem sqT_same {a : Addr} {xs : List V} (h : SqT K H a xs) (s : Same H H') : SqT K H' a xs := by
  rcases h with (z | ⟨o, z⟩) | z
  · exact .inl (.inl (s _ _ z))
  · exact .inl (.inr ⟨o, s _ _ z⟩)
  · exact .inr z
mutual
theorem dp_same (s : Same H H') : ∀ {v : V} {d : PyData}, Dp K H v d → Dp K H' v d
  | _, _, .non => .non
  | _, _, .bl b => .bl b
  | _, _, .int i => .int i
  | _, _, .str x => .str x
  | _, _, .lst h a => .lst (sqL_same h s) (dps_same s a)
  | _, _, .tup h a => .tup (sqT_same h s) (dps_same s a)
theorem dps_same (s : Same H H') : ∀ {vs : List V} {ds : List PyData}, DpAll K H vs ds → DpAll K H' vs ds
  | _, _, .nil => .nil
  | _, _, .cons h a => .cons (dp_same s h) (dps_same s a)
end
mutual
theorem dq_same (s : Same H H') : ∀ {v : V} {d : PyData}, Dq K H v d → Dq K H' v d
  | _, _, .dp h ok => .dp (dp_same s h) ok
  | _, _, .one e a b => .one (s _ _ e) a b
  | _, _, .emp e => .emp (s _ _ e)
  | _, _, .lst h a => .lst (sqL_same h s) (dqs_same s a)
  | _, _, .tup h a => .tup (sqT_same h s) (dqs_same s a)
theorem dqs_same (s : Same H H') : ∀ {vs : List V} {ds : List PyData}, DqAll K H vs ds → DqAll K H' vs ds
  | _, _, .nil => .nil
  | _, _, .cons h a => .cons (dq_same s h) (dqs_same s a)
end
structure Val (K : PySem.W.Frag) (H : Hp) (v : V) (d : PyData) : Prop where
  dq : Dq K H v d
  rp : (Dp K H v d ∧ d.showable = true ∧ d.hasDict = false) ∨ ∃ a, v = .ref a ∧ Dq K H v d
  dep : d.depth ≤ 3
  ls : PyData.leavesShort 300 d = true
  bk : d.bulk ≤ 100
  so : PyData.strOk d.shown = true
theorem Val.same {v : V} {d : PyData} (h : Val K H v d) (s : Same H H') : Val K H' v d :=
  ⟨dq_same s h.dq, h.rp.imp (fun ⟨a, b, c⟩ => ⟨dp_same s a, b, c⟩) (fun ⟨a, b, c⟩ => ⟨a, b, dq_same s c⟩), h.dep, h.ls, h.bk, h.so⟩
theorem Val.len {v : V} {d : PyData} (h : Val K H v d) : d.shown.length ≤ 31000 := by
  have z := PyData.shown_le_bulk 300 (by decide) d h.ls
  have b := h.bk
  omega
theorem Val.lenS {v : V} {d : PyData} (h : Val K H v d) : d.shown.length ≤ sizeLine := Nat.le_trans h.len (by rw [sizeLine_eq]; decide)
theorem Val.flat {v : V} {d : PyData} (h : Dp K H v d) (ok : okD d = true) (sh : d.showable = true) (nd : d.hasDict = false) (dep : d.depth ≤ 3) (ls : PyData.leavesShort 300 d = true) (bk : d.bulk ≤ 100) (so : PyData.strOk d.shown = true) : Val K H v d := ⟨.dp h ok, .inl ⟨h, sh, nd⟩, dep, ls, bk, so⟩
theorem Val.int {n : Int} (h : n.natAbs < 10 ^ 40) : Val K H (.int n) (.int n) := by
  have z : n.natAbs.log2 < 1920 := Nat.lt_trans (PySem.Flt.log2_lt_of (k := 200) (by decide) (Nat.lt_of_lt_of_le h (by decide +kernel))) (by decide)
  refine .flat (.int n) (decide_eq_true (Nat.lt_of_lt_of_le h (by decide +kernel))) (decide_eq_true z) rfl (by simp [PyData.depth]) ?_ (by simp [PyData.bulk]) (ofS_ok _)
  · have e := int_text_length_le10 (a := n) (k := 40) (by decide) h
    refine decide_eq_true ?_
    show (Str.ofString (toString n)).length ≤ 300
    rw [PySem.ofString_length]
    exact Nat.le_trans e (by decide)
end
theorem pe_imp {X : Cx} {e : Expr} {t t' : TE} (h : PE X e t) (i : ∀ σ H Q, t' σ H Q → t σ H Q) : PE X e t' := ⟨fun pins s σ H Q I q => h.run pins s σ H Q I (i σ H Q q)⟩
theorem same_err {H : Hp} {e d : Addr} {o u : HO} (he : H e = none) (hd : H d = none) : Same H (upd (upd H d o) e u) := fun b w q => by rw [upd_ne (ne_of_none q he), upd_ne (ne_of_none q hd)]; exact q
theorem Same.tr {H H1 H2 : Hp} (a : Same H H1) (b : Same H1 H2) : Same H H2 := fun x o e => b x o (a x o e)
end GL
namespace GL
open PySem PySem.Spec PyProof.Rows L2 PySem.GLE
theorem err_mk {K : PySem.W.Frag} {h : Heap} {mg : Str → Option Value} {x f nm q qual : Str} {C fI N : Addr} {bs bm bB : List Value} {sn : List Str} {sub : List Value} {ab : Bool} {col : Option Bool} {dd od an : Option Addr} {k0 k1 k2 k3 k5 : Option Value} {B nwId inId : String}
    {oc doc pm cdv ct : Value} {osl : Array (Option Value)} {p1 p2 q1 q2 q3 q4 : Pos} (X : K.In h) (G : h.Ns mainGlobals mg) (F : ExcBaseFacts B nwId inId bB) (ch : Chain B bm)
    (f1 : (f == ("self" : Str)) = false) (f2 : (f == ("__debug__" : Str)) = false)
    (bd : ∀ (qual : Str) (p1 p2 q1 q2 q3 q4 : Pos) (doc pm : Value) (an : Option Addr) (cdv ct : Value) (a : Addr) (v : Value) (u : Unit), bindArgs (PySem.W.fnOf "__init__" qual (iArgs f p1 p2) (iBody f q1 q2 q3 q4) (iScope f) .none .none doc pm an cdv ct) ⟨[.ref a, v], []⟩ = pure [(PySem.Str.ofString "self", .ref a), (f, v)])
    (n : PySem.W.nsIn K mainGlobals x = some (some (.ref C))) (l : K.lookup C = some (excClassObj nm q C N bs bm true sn sub ab col dd k0 k1 k2 k3 k5 nwId))
    (iC : PySem.W.findIn K (.ref C) "__init__" = some (some (.ref fI))) (lf : K.lookup fI = some ⟨oc, od, .func (PySem.W.fnOf "__init__" qual (iArgs f p1 p2) (iBody f q1 q2 q3 q4) (iScope f) .none .none doc pm an cdv ct), osl⟩) (cd : PySem.W.codeIn K cdv qual = true)
    (sa : PySem.W.findIn K (.ref C) "__setattr__" = some (some (.builtin "object.__setattr__"))) (ga : PySem.W.findIn K (.ref C) "__getattribute__" = some (some (.builtin "BaseException.__getattribute__"))) (gg : PySem.W.findIn K (.ref C) "__getattr__" = some none)
    (no : PySem.W.findIn K (.ref C) f = some none) (tC : PySem.W.typeIn K (.ref fI) = some (.type "function")) (kC : PySem.W.keepIn K (.ref C) = true) (exC : PySem.W.subIn K (.ref C) (.type "BaseException") = some true) (tyC : PySem.W.typeIn K (.ref C) = some (.type "type"))
    (hdC : PySem.W.hasDictIn K C = true) : ErrTxt K mg x f C fI :=
  { gC := PySem.W.mg_of X G n, cls := ⟨nm, q, N, bs, bm, sn, sub, ab, col, dd, k0, k1, k2, k3, k5, B, nwId, inId, bB, F, ch, l⟩, sa := sa, ga := ga, gg := gg, noN := no, iC := iC, tC := tC, kC := kC, exC := exC, tyC := tyC, hdC := hdC, f1 := f1, f2 := f2, bd := bd,
    fn := ⟨_, _, qual, _, _, _, _, _, _, _, _, _, _, _, _, lf, cd⟩ }
end GL
/-! the end of a law whose defs make lambdas: their tables of code objects -/
namespace GL
open PySem PySem.Spec PyProof.Rows L2 LamX
/-- law_call with tables: cs, the code objects and their tables -/
theorem law_tabs {P : Program} {w : World} {K : PySem.W.Frag} {mg mb : Str → Option Value} {CX : CXT} {k : Nat} {fa a : Addr} {cs : List (Addr × Addr)} {fd : FuncData} {x : Str} {sp : Sp} {sA : Shared} {vs : List Value} {ns : List Int}
    (inK : K.In sA.heap) (nsG : sA.heap.Ns mainGlobals mg) (hb : sA.heap.Ns builtinsNs mb) (bIs : ∀ x : Str, x ≠ "__name__" → mb x = bootBuiltins x) (lim : sA.heap.NoLimit) (hg : sA.gens = #[])
    (hT : ∀ p ∈ cs, sA.heap.get? p.2 = some { cls := .none, data := .fields #[] }) (tFree : ∀ p ∈ cs, K.lookup p.2 = none) (C : ∀ p ∈ cs, PySem.W.CodeHd sA.heap p.1 p.2)
    (modB : ∃ (bm : Addr) (ob : Obj), mg "__builtins__" = some (.ref bm) ∧ bm ≠ builtinsNs ∧ sA.heap.get? bm = some ob ∧ ob.cls = .type "module" ∧ ob.dict = some builtinsNs ∧ ob.data = .plain)
    (ha : sA.heap.get? a = some { cls := .type "list", data := .seq vs.toArray }) (hi : IntsAre vs ns) (hl : ns.length ≤ sizeLine) (hr : Room k callerA)
    (F : ∀ base : Heap, K.In base → base.Ns mainGlobals mg → (∀ p ∈ cs, TabB base mg p.1 p.2) → FnG P w K mg base CX k fa fd [x] sp) (hbind : ∀ (s : Shared) (u : Value), BindsTo s fd ⟨[u], []⟩ [(x, u)])
    (hsp : ∀ H : Hp, (∀ p ∈ cs, H p.2 = some (.tbl #[])) → SqL K H a (ns.map V.int) → sp [.ref a] H (fun v _ => v = .bl true) fun _ _ _ => False)
    (never : ∀ H e s', CX [] H sA (fun _ _ _ => False) e s' → False) :
    codeAny (model P w) callerA (.call (.ref fa) ⟨[.ref a], []⟩) (fun r s' => r = .ok (.ret (.bool true)) ∧ OldK sA.heap s'.heap ∧ s'.os = sA.os ∧ AllBare s'.gens) sA := by
  have relV := vals_ints hi
  have lenE := hi.length
  have tIs : ∀ b : Addr, b ∈ cs.map (·.2) → sA.heap.get? b = some { cls := .none, data := .fields #[] } := fun b hb => by
    obtain ⟨p, hp, e⟩ := List.mem_map.mp hb
    rw [← e]
    exact hT p hp
  have aOut : a ∉ cs.map (·.2) := fun z => by
    have q := tIs a z
    rw [ha] at q
    have z' : Data.seq vs.toArray _ = Data.fields #[] := congrArg Obj.data (Option.some.inj q)
    cases z'
  have tMem : ∀ p ∈ cs, p.2 ∈ cs.map (·.2) := fun p hp => List.mem_map.mpr ⟨p, hp, rfl⟩
  -- from an abstract heap in which nothing but the script and the tables may be tracked
  have heart : ∀ H : Hp, (∀ p ∈ cs, H p.2 = some (.tbl #[])) → (∀ b, H b = none ∨ b ∈ cs.map (·.2) ∨ ∃ o xs, H b = some (.frz o (.lst xs))) → SqL K H a (ns.map V.int) → HOk P w H sA.heap → (∀ b, H b ≠ none → b = a ∨ b ∈ cs.map (·.2)) → (H a ≠ none → K.lookup a = none) →
      codeAny (model P w) callerA (.call (.ref fa) ⟨[.ref a], []⟩) (fun r s' => r = .ok (.ret (.bool true)) ∧ OldK sA.heap s'.heap ∧ s'.os = sA.os ∧ AllBare s'.gens) sA := by
    intro H hH onlyH seqH okH atH noK
    have toB : ∀ {b : Addr} {o : Obj}, sA.heap.get? b = some o → H b = none → (hidT sA.heap H).get? b = some o := fun e n => hidT_get e n
    have noneD : ∀ {b : Addr} {o : Obj}, sA.heap.get? b = some o → (∀ vs n, o.data ≠ .seq vs n) → o.data ≠ .fields #[] → H b = none := fun {b o} e h1 h2 => by
      cases q : H b with
      | none => rfl
      | some u =>
        rcases atH b (by rw [q]; simp) with e' | e'
        · rw [e', ha] at e
          cases e
          exact (h1 _ _ rfl).elim
        · rw [tIs b e'] at e
          cases e
          exact (h2 rfl).elim
    have noneDict : ∀ {b : Addr} {o : Obj} {es : Array DictEntry} {ep : Nat}, sA.heap.get? b = some o → o.data = .dict es ep → H b = none := fun {b o es ep} e d => by
      refine noneD e (fun vs n z => ?_) fun z => ?_
      · rw [d] at z
        cases z
      · rw [d] at z
        cases z
    have keepNs : ∀ {b : Addr} {m : Str → Option Value}, sA.heap.Ns b m → (hidT sA.heap H).Ns b m := fun {b m} ⟨o, es, ep, e, d, r⟩ => ⟨o, es, ep, toB e (noneDict e d), d, r⟩
    have inKB : K.In (hidT sA.heap H) := fun b o e => toB (inK b o e) (by
      cases q : H b with
      | none => rfl
      | some u =>
        rcases atH b (by rw [q]; simp) with e' | e'
        · rw [e'] at e q
          rw [noK (by rw [q]; simp)] at e
          cases e
        · obtain ⟨p, hp, ep⟩ := List.mem_map.mp e'
          rw [← ep, tFree p hp] at e
          cases e)
    have modu : L2.Mod K mg (hidT sA.heap H) := ⟨inKB, keepNs nsG, ⟨mb, keepNs hb, bIs⟩, let ⟨mc, h1, h2⟩ := lim; ⟨mc, keepNs h1, h2⟩⟩
    have tabB : ∀ p ∈ cs, TabB (hidT sA.heap H) mg p.1 p.2 := fun p hp => by
      have tAt := hT p hp
      refine ⟨?_, ?_, fun z => ?_⟩
      · obtain ⟨o, us, file, tf, flags, tg, inF, text, tt, e1, r1, r2, r3, r4, r5, r6, r7, r8, hne⟩ := C p hp
        refine ⟨o, us, file, tf, flags, tg, inF, text, tt, toB e1 (noneD e1 (fun vs n z => ?_) fun z => ?_), r1, r2, r3, r4, r5, r6, r7, r8, hne⟩
        · rw [r2] at z
          cases z
        · rw [r2] at z
          cases z
          simp at r3
      · obtain ⟨bm, ob, b1, b2, b3, b4, b5, b6⟩ := modB
        have nG : bm ≠ mainGlobals := fun q => by
          obtain ⟨o, es, ep, e, hd, _⟩ := nsG
          rw [q, e] at b3
          cases b3
          rw [hd] at b6
          cases b6
        have nP : bm ≠ p.2 := fun q => by
          rw [q, tAt] at b3
          cases b3
          cases b6
        refine ⟨bm, ob, b1, b2, nG, nP, toB b3 (noneD b3 (fun vs n z => ?_) fun z => ?_), b4, b5, b6⟩
        · rw [b6] at z
          cases z
        · rw [b6] at z
          cases z
      · obtain ⟨o, es, ep, e, hd, _⟩ := nsG
        rw [z, tAt] at e
        cases e
        cases hd
    have env0 : Env0 P w K mg (hidT sA.heap H) callerA [] sA H := ⟨rfl, modu, fun b o e => of_hidT e, Nat.le_of_eq (hidT_size _ _), trivial, fun b hb => absurd (show b ∈ ([] : List Addr) from hb) (by simp), okH, .of_eq hg⟩
    refine codeAny_mono ((F _ inKB (keepNs nsG) tabB).go (A := callerA) (outer := []) (s := sA) (args := ⟨[.ref a], []⟩) (us := [.ref a]) (vs := [.ref a]) rfl hr env0 (hbind sA (.ref a)) (.cons rfl .nil) (hsp H hH seqH)) fun r s' h => ?_
    cases r with
    | error e => exact (never H e s' h).elim
    | ok fl =>
      cases fl with
      | next => exact False.elim h
      | brk => exact False.elim h
      | cont => exact False.elim h
      | ret u =>
        obtain ⟨v, H', ost, bar, unc, okH', r', q⟩ := h
        have q' : v = .bl true := q
        subst q'
        obtain rfl : u = Value.bool true := r'
        have same_ : ∀ b o, b ∉ cs.map (·.2) → sA.heap.get? b = some o → s'.heap.get? b = some o := fun b o nb e => by
          cases q : H b with
          | none => exact unc.keep b o e q (by intro z; exact absurd (show b ∈ ([] : List Addr) from z) (by simp)) (by simp)
          | some u =>
            rcases onlyH b with z | z | ⟨ob, xs, z⟩
            · rw [q] at z; cases z
            · exact absurd z nb
            · have z2 := unc.frzs b ob _ z
              obtain ⟨e1, _⟩ := okH b _ z
              obtain ⟨e2, _⟩ := okH' b _ z2
              rw [e] at e1; cases e1
              exact e2
        have grew : ∀ p ∈ cs, ∃ more : Array Value, s'.heap.get? p.2 = some { cls := .none, data := .fields more } := fun p hp => by
          obtain ⟨more, z⟩ := unc.tbls p.2 #[] (hH p hp)
          exact ⟨_, okH' p.2 _ z⟩
        refine ⟨rfl, ⟨fun b o e => ?_, fun b o e => ?_⟩, ost, bar⟩
        · by_cases hb : b ∈ cs.map (·.2)
          · obtain ⟨p, hp, ep⟩ := List.mem_map.mp hb
            obtain ⟨more, hm⟩ := grew p hp
            rw [← ep] at e ⊢
            rw [hT p hp] at e
            cases e
            exact .inr (.inl ⟨((C p hp).tab (hT p hp)).isCodeTable, rfl, #[], more, rfl, by rw [Array.empty_append]; exact hm⟩)
          · exact .inl (same_ b o hb e)
        · by_cases hb : b ∈ cs.map (·.2)
          · obtain ⟨p, hp, ep⟩ := List.mem_map.mp hb
            obtain ⟨more, hm⟩ := grew p hp
            rw [← ep]
            exact ⟨_, hm⟩
          · exact ⟨o, same_ b o hb e⟩
  cases hk : K.lookup a with
  | some o =>
    have e := inK a o hk
    rw [ha] at e
    cases e
    refine heart (fun b => if b ∈ cs.map (·.2) then some (.tbl #[]) else none) (fun p hp => if_pos (tMem p hp)) (fun b => ?_) (.inr ⟨_, vs.toArray, _, hk, rfl, rfl, rfl, by rw [List.size_toArray, lenE]; exact hl, by simpa using relV⟩) (fun b u z => ?_) (fun b z => ?_) fun z => absurd (show (if a ∈ cs.map (·.2) then some (HO.tbl #[]) else none) = none from if_neg aOut) z
    · by_cases hb : b ∈ cs.map (·.2)
      · exact .inr (.inl hb)
      · exact .inl (if_neg hb)
    · by_cases hb : b ∈ cs.map (·.2)
      · have z' := (if_pos hb).symm.trans z
        cases z'
        exact tIs b hb
      · have z' := (if_neg hb).symm.trans z
        cases z'
    · by_cases hb : b ∈ cs.map (·.2)
      · exact .inr hb
      · exact absurd (if_neg hb) z
  | none =>
    refine heart (fun b => if b = a then some (.frz { cls := .type "list", data := .seq vs.toArray } (.lst (ns.map V.int))) else if b ∈ cs.map (·.2) then some (.tbl #[]) else none) (fun p hp => (if_neg (show ¬ p.2 = a from fun z => aOut (by rw [← z]; exact tMem p hp))).trans (if_pos (tMem p hp))) (fun b => ?_)
      (.inl (.inr ⟨{ cls := .type "list", data := .seq vs.toArray }, if_pos rfl⟩)) (fun b u z => ?_) (fun b z => ?_) fun _ => hk
    · by_cases hb : b = a
      · exact .inr (.inr ⟨_, _, if_pos hb⟩)
      · by_cases hb2 : b ∈ cs.map (·.2)
        · exact .inr (.inl hb2)
        · exact .inl ((if_neg hb).trans (if_neg hb2))
    · by_cases hb : b = a
      · have z' := (if_pos hb).symm.trans z
        cases z'
        rw [hb]
        exact ⟨ha, by rw [List.length_map]; exact hl, vs, _, relV, ha⟩
      · have z1 := (if_neg hb).symm.trans z
        by_cases hb2 : b ∈ cs.map (·.2)
        · have z' := (if_pos hb2).symm.trans z1
          cases z'
          exact tIs b hb2
        · have z' := (if_neg hb2).symm.trans z1
          cases z'
    · by_cases hb : b = a
      · exact .inl hb
      · by_cases hb2 : b ∈ cs.map (·.2)
        · exact .inr hb2
        · exact absurd ((if_neg hb).trans (if_neg hb2)) z
/-- what is known of the law's promise at the head's heap h -/
def LawTab (l : PySem.W.OpenLaw) (w : World) (K : PySem.W.Frag) (CX : CXT) (k n : Nat) (x : Str) (mg : Str → Option Value) (fa : Addr) (h : Heap) : Prop :=
  ∃ (fd : FuncData) (cs : List (Addr × Addr)) (sp : Sp), (∀ p ∈ cs, h.get? p.2 = some { cls := .none, data := .fields #[] }) ∧ (∀ p ∈ cs, K.lookup p.2 = none) ∧ (∀ p ∈ cs, PySem.W.CodeHd h p.1 p.2) ∧ (∀ (s : Shared) (u : Value), BindsTo s fd ⟨[u], []⟩ [(x, u)]) ∧
    (∀ (H : Hp) (a : Addr) (ns : List Int), ns.length ≤ n → (∀ z ∈ ns, Builtin.Int.intBits z ≤ 1048576) → (∀ p ∈ cs, H p.2 = some (.tbl #[])) → SqL K H a (ns.map V.int) → sp [.ref a] H (fun v _ => v = .bl true) fun _ _ _ => False) ∧
    ∀ base : Heap, K.In base → base.Ns mainGlobals mg → (∀ p ∈ cs, TabB base mg p.1 p.2) → FnG l.prog w K mg base CX k fa fd [x] sp
theorem walk_tabs {l : PySem.W.OpenLaw} {n k : Nat} {q : Program} {loose : List Str} {XP : (Str → Option Value) → Heap → Prop} {YP : World → Heap → Prop} {d : DefRec} {K : Params → PySem.W.Frag} {CX : World → CXT} {x : Str}
    (hn : l.most = some n) (hn2 : n ≤ sizeLine) (hdf : d.params.defaults = []) (hr : Room k callerA) (hY : ∀ (w : World) (h : Heap), YP w h → (K w.params).In h)
    (F : ∀ (w : World) (mg : Str → Option Value) (fa : Addr) (h : Heap), YP w h → (K w.params).In h → h.Ns mainGlobals mg → mg d.name = some (.ref fa) → LawTab l w (K w.params) (CX w) k n x mg fa h)
    (never : ∀ (w : World) (H : Hp) (s : Shared) (e : Value) (s' : Shared), CX w [] H s (fun _ _ _ => False) e s' → False) :
    PySem.W.WalkO q loose XP YP l.row.toRowW d [] (fun f vs => PySem.call f vs) := by
  refine Att.attach_callB hn hdf fun w sB sA mg mb fa o pm cd doc a vs ns G Y ho hd hcd hmg hobj hints hlen hbits hg => ?_
  have inK := hY w _ Y
  obtain ⟨fd, cs, sp, hT, tFree, C, hb, hsp, hF⟩ := F w mg fa _ Y inK G.T.g hmg
  exact law_tabs inK G.T.g G.T.b G.T.builtins G.T.nolimit hg hT tFree C G.T.bmain hobj hints (Nat.le_trans hlen hn2) hr hF hb (fun H hH seqH => hsp H a ns hlen hbits hH seqH) fun H e s' => never w H sA e s'
end GL
/-! a lambda handed to a def, where repr may be asked -/
namespace GL
open PySem PySem.Spec PyProof.Rows L2 LamX
section
variable {X : Cx} {pins : List (Addr × Obj)} {σ : L2.St} {H HZ : Hp} {s s1 : Shared}
/-- x(), in the def that got the lambda: Z is that def's context, entered at s -/
theorem lam_act {CXg : CXT} {Eg : XK} {Ng : List Str} {qg : Str} {sg : Scope} {g f c' : Addr} {cdg pm ctv : Value} {params : Arguments} {body : Expr} {scope : Scope} {k i : Nat} {a : Str} {pn : List (Addr × Obj)} {xe : Value → Shared → Prop} {W : WX} {E : XK} {tb : TE} {p1 p2 : Pos}
    (I : Inv X pins σ H s) (L : LamS X.env.scope scope) (objF : s.heap.get? f = some (PySem.W.kla_obj "<lambda>" (X.env.qual ++ "<lambda>") params body scope (cloFrom X.env.cells scope.names []) pm c' ctv)) (noF : H f = none) (outF : f ∉ frs X.stack)
    (bindN : bindArgs (PySem.W.kla_fn "<lambda>" (X.env.qual ++ "<lambda>") params body scope (cloFrom X.env.cells scope.names []) pm (.ref c') ctv) ⟨[], []⟩ = pure [])
    (tak : Takes ((cxOf CXg X.prog X.w X.K X.mg X.base Ng qg sg g cdg X.A X.stack s H Eg).tr pn xe) W) (toW : ∀ cls d σ' H', E cls d H' → W cls d σ' H') (hr : Room (k + 1) (X.A.deeper (envOfC qg sg s.heap.objs.size g cdg)))
    (gd : Gd X.A) (inBody : ∀ (A : Around) (outer : List Env) (s : Shared) (H : Hp), Gd (A.deeper (lamEnv X scope s.heap.objs.size f c')) → Room k (A.deeper (lamEnv X scope s.heap.objs.size f c')) → PE (lamCx X A outer s H E scope f c') body tb)
    (atN : Ng[i]? = some a) (visA : Vis sg a) (dbgA : (a == ("__debug__" : Str)) = false := by decide) (cdA : (a == ("__classdict__" : Str)) = false := by decide) :
    PE ((cxOf CXg X.prog X.w X.K X.mg X.base Ng qg sg g cdg X.A X.stack s H Eg).tr pn xe) (.Call (.Name a p1) [] [] p2)
      (fun σZ HZ Q => σZ[i]? = some (some (.ref f)) ∧ HZ c' = some (CodeO c' (X.env.qual ++ "<lambda>")) ∧ tb σ HZ Q) := by
  refine ⟨fun pinsZ sZ σZ HZ Q Iz h => ?_⟩
  obtain ⟨slotF, codeF, body_⟩ := h
  refine wpAny_Call_Name_kw (thn ((pe_var (pos := p1) (i := i) atN visA dbgA cdA).run pinsZ sZ σZ HZ (fun v H1 => v = .ref f ∧ H1 = HZ) Iz ⟨.ref f, slotF, rfl, rfl⟩) fun u s1 ⟨v, H1, Iy, r1, q1⟩ => ?_)
  obtain ⟨ev, eH⟩ := q1
  subst ev
  rw [eH] at Iy
  obtain rfl : u = Value.ref f := r1
  have objF1 : s1.heap.get? f = some (PySem.W.kla_obj "<lambda>" (X.env.qual ++ "<lambda>") params body scope (cloFrom X.env.cells scope.names []) pm c' ctv) := Iy.base.keep f _ objF noF outF (fun z => nomatch (show f ∈ ([] : List Addr) from z))
  refine PySem.W.callWith_F0 ⟨_, _, _, _, objF1⟩ ?_
  have unZ : Un (frs X.stack) [] H HZ s.heap s1.heap := Iy.base
  obtain ⟨⟨oc, vs, t, ocC, dataC, nameC⟩, _, _⟩ := Iy.hok c' _ codeF
  have runs : codeAny (model X.prog X.w) (X.A.deeper (envOfC qg sg s.heap.objs.size g cdg)) (.call (.ref f) ⟨[], []⟩) (CR (L2.CX X.prog X.w) (envOfC qg sg s.heap.objs.size g cdg :: X.stack) X.prog X.w HZ s1 Q E) s1 := by
    refine PySem.W.kla_callFunE hr.depth objF1 rfl L.co L.gen rfl ⟨c', oc, vs, t, rfl, ocC, dataC, nameC⟩ ?_
    rw [bindN]
    refine wpAny_pure (wpAny_newFunctionEnv (fun y hy => (L.own y hy).2) (fun y hy => absurd hy (by simp)) (fun h₁ nsL butL => ⟨Iy.nolimit.fresh _ butL, ?_⟩) L.kind)
    show codeAny _ _ (.expr body (lamEnv X scope s1.heap.objs.size f c')) _ _
    have old : ∀ b o, s1.heap.get? b = some o → h₁.get? b = some o := fun b o e => butL.extBut b o (Nat.ne_of_lt (Heap.lt_size e)) (Heap.get?_push_of_some _ e)
    have Jn : Inv (lamCx X (X.A.deeper (envOfC qg sg s.heap.objs.size g cdg)) (envOfC qg sg s.heap.objs.size g cdg :: X.stack) s1 HZ E scope f c') [] σ HZ { s1 with heap := h₁, toks := s1.toks + ([] : List (Str × Value)).length } :=
      lam_start2 I L Iy.env0 hr.hd unZ nsL old
    refine PySem.W.kla_codeExpr (wpAny_mono ((inBody (X.A.deeper (envOfC qg sg s.heap.objs.size g cdg)) _ s1 HZ gd (hr.deeper _)).run [] _ _ HZ Q Jn body_) (fun v s' res => ?_) fun e s' res => res)
    obtain ⟨w', H', J', rv, q⟩ := res
    exact ⟨w', H', J'.os, J'.bare, J'.base, J'.hok, rv, q⟩
  have outs : Passes (L2.CX X.prog X.w) ((cxOf CXg X.prog X.w X.K X.mg X.base Ng qg sg g cdg X.A X.stack s H Eg).tr pn xe) E := passes_call tak toW
  refine wpAny_call (codeAny_mono runs fun r s' res => ?_)
  cases r with
  | error e => exact outs pinsZ σZ HZ s1 e s' Iy res
  | ok fl =>
    cases fl with
    | ret u => exact Iy.after res
    | next => exact False.elim res
    | brk => exact False.elim res
    | cont => exact False.elim res
end
section
variable {X : Cx}
/-- x(lambda: body) -/
theorem pe_lam {T : List (Addr × Str)} {TT : (XK → Hp → VK → Prop) → Hp → VK → Prop} {x a : Str} {g c P : Addr} {k : Nat} {pg : Arguments} {bg : List Stmt} {sg : Scope} {dV kV doc pm cdv ct oc : Value} {an od : Option Addr} {osl : Array (Option Value)} {Ng : List Str}
    {params : Arguments} {body : Expr} {scope : Scope} {t : XK → TE} {p lpos pos : Pos} (glX : Gl X x) (mgX : X.mg x = some (.ref g)) (keepX : PySem.W.keepIn X.K (.ref g) = true)
    (objG : X.K.lookup g = some ⟨oc, od, .func (PySem.W.fnOf x x pg bg sg dV kV doc pm an cdv ct), osl⟩) (codeG : PySem.W.codeIn X.K cdv x = true) (bindsG : L2.Binds X.K (PySem.W.fnOf x x pg bg sg dV kV doc pm an cdv ct) [a] []) (Sg : FnScope Ng [a] sg) (atNg : Ng[0]? = some a) (visNg : Vis sg a)
    (gives : GivesTo X Ng x sg g cdv bg a (X.env.qual ++ "<lambda>") TT)
    (TB : TabB X.base X.mg c P) (codeX : X.env.code = .ref c) (inT : (P, X.env.qual ++ "<lambda>") ∈ T) (oneT : ∀ p ∈ T, p.1 = P → p.2 = X.env.qual ++ "<lambda>") (hr : Room (k + 2) X.A) (L : LamS X.env.scope scope) (noDef : defaultsOf params X.env = ([], []))
    (bindN : ∀ (q : Str) (cl : List (Str × Addr)) (pm cv ctv : Value), bindArgs (PySem.W.kla_fn "<lambda>" q params body scope cl pm cv ctv) ⟨[], []⟩ = pure [])
    (gd : Gd X.A) (inBody : ∀ (A : Around) (outer : List Env) (s : Shared) (H : Hp) (E : XK) (f c' : Addr), Gd (A.deeper (lamEnv X scope s.heap.objs.size f c')) → Room k (A.deeper (lamEnv X scope s.heap.objs.size f c')) → PE (lamCx X A outer s H E scope f c') body (t E))
    (hdb : (x == ("__debug__" : Str)) = false := by decide) (dbgA : (a == ("__debug__" : Str)) = false := by decide) (cdA : (a == ("__classdict__" : Str)) = false := by decide) :
    PE X (.Call (.Name x p) [.Lambda params body scope lpos] [] pos) (tLam T TT t) := by
  refine ⟨fun pins s σ H Q I h => ?_⟩
  obtain ⟨tabs, h⟩ := h
  refine wpAny_Call_Name_kw (ld_glob I glX mgX ?_ hdb)
  refine PySem.W.callWith_K (h₀ := X.base) I.ok.mod.kin keepX ?_ (by rfl) (by rfl)
  show wpAny _ _ (spliced ((false, eval (.Lambda params body scope lpos) X.env) :: backTo pos (starEach [] X.env))) _ _ s
  refine Calls.spliced_cons (lam_make2 I TB codeX inT oneT tabs noDef (L.has I.ok) fun f c' pm' ctv H1 s' Iy ext tabs1 objF noF outF codeAt => ?_)
  refine Calls.spliced_nil ⟨Iy.kIn, ?_⟩
  have runs : codeAny (model X.prog X.w) X.A (.call (.ref g) ⟨[.ref f], []⟩) (CR C8.CX0 X.stack X.prog X.w H1 s' Q C8.E0) s' := by
    refine run_ofS (N := Ng) (ps := [a]) (us := [.ref f]) (vs := [.ref f]) objG codeG Sg hr Iy.env0 (bindsG s' [.ref f] Iy.kIn rfl) (.cons rfl .nil) rfl fun hr' => ?_
    obtain ⟨t', ht', hq'⟩ := gives f c' s' H1 Q (fun E H' Q' => t E σ H' Q') (fun W pn xe E p1 p2 tak toW => lam_act (i := 0) Iy L objF noF outF (bindN _ _ _ _ _) tak toW hr' gd (fun A outer s H gd2 hr2 => inBody A outer s H E f c' gd2 hr2) atNg visNg dbgA cdA) codeAt (h H1 ext tabs1)
    exact ⟨t', ht'.nox, hq'⟩
  refine wpAny_call (codeAny_mono runs fun r s2 res => ?_)
  cases r with
  | error e => exact (show False from res).elim
  | ok fl =>
    cases fl with
    | ret u => exact Iy.after res
    | next => exact False.elim res
    | brk => exact False.elim res
    | cont => exact False.elim res
end
end GL
/-! an own operator with a right operand of a built-in type -/
namespace GL
open PySem PySem.Spec PyProof.Rows L2
section
variable {prog : Program} {w : World} {A : Around} {E : Value → Shared → Prop} {s : Shared} {K : PySem.W.Frag} {x C L f : Addr} {h₀ : Heap} {m : Str → Option Value} {ox : Obj} {od : Option Obj} {b : Value}
/-- what the type T says to an operator -/
structure TyOp (T nm : String) (tf : Bool) : Prop where
  fills : fillsNumberSlot (.type T) nm = pure tf
  py : tf = true → ∃ p y, numberSlotInPython (.type T) nm = pure p ∧ typeLookup (.type T) (dunderR nm) = pure y
open PySem.W PySem.Calls Builtin in
theorem bin_type {op : Operator} {T : String} {tf : Bool} {Q : Value → Shared → Prop} (F : Fr h₀ L s.heap m) (X₀ : K.In h₀) (I : InstAt s.heap x ox C od) (hb : Looks (model prog w) s.heap (typeOf b) (.type T)) (tyT : TyOp T op.info.2 tf) (sT : isSubtype (.type T) (.ref C) = pure false)
    (cC : BinC K C op.info.2) (hs : findIn K (.ref C) (PySem.dunder op.info.2) = some (some (.ref f))) (hf : isFn K (.ref f) = true)
    (h : wpAny (model prog w) A (call (.ref f) [.ref x, b]) (PySem.W.CmpBack Q) E s) : wpAny (model prog w) A (binaryOp op (.ref x) b) Q E s := by
  have X := X₀.keeps F.keep
  obtain ⟨cd, rest, hcd, hm⟩ := ksp_first cC.first
  have hrC := cC.refl
  rcases hi : op.info with ⟨sym, nm'⟩
  rw [hi] at hs hrC tyT
  dsimp only at hs hrC tyT
  have one := ksp_try X I hs hf h
  obtain ⟨hh, g, d, tt, os⟩ := s
  have M1 : Looks (model prog w) hh (typeOf (.ref x)) (.ref C) := I.type
  have M2 : Looks (model prog w) hh (typeOf b) (.type T) := hb
  have M3 : Looks (model prog w) hh (fillsNumberSlot (.ref C) nm') true := fills_K X hcd hm hs
  have e4 := tyT.fills
  have M6 : Looks (model prog w) hh (numberSlotInPython (.ref C) nm') true := ksp_inPy X hs hrC (.inl rfl)
  have hne : (Value.ref C == Value.type T) = false := rfl
  simp only [binaryOp, hi]
  refine wpAny_holding (wpAny_bind ?_)
  unfold binaryOp1
  refine wpAny_bind (M1.at (wpAny_bind (M2.at (wpAny_bind (M3.at ?_)))))
  simp only [hne, Bool.false_eq_true, if_false, e4, sT]
  cases tf with
  | false =>
    ksp_lk
    refine wpAny_mono one (fun r s' hr' => ?_) fun _ _ e => e
    obtain ⟨v, rfl, hq⟩ := hr'
    ksp_lk
    exact hq
  | true =>
    obtain ⟨p, y, e7, e8⟩ := tyT.py rfl
    simp only [e7, e8]
    cases p <;>
    · ksp_lk
      refine wpAny_mono one (fun r s' hr' => ?_) fun _ _ e => e
      obtain ⟨v, rfl, hq⟩ := hr'
      ksp_lk
      exact hq
end
theorem tyop_no (T : String) (h : T = "NoneType" ∨ T = "str" ∨ T = "tuple" ∨ T = "list" ∨ T = "dict") : ∀ nm ∈ ["add", "sub", "mul", "floordiv"], TyOp T nm false := by
  intro nm m
  simp only [List.mem_cons, List.not_mem_nil, or_false] at m
  rcases h with h | h | h | h | h <;> subst h <;> rcases m with m | m | m | m <;> subst m <;> exact ⟨by kernel_rfl, fun z => nomatch z⟩
theorem tyop_yes (T : String) (h : T = "int" ∨ T = "bool") : ∀ nm ∈ ["add", "sub", "mul", "floordiv"], TyOp T nm true := by
  intro nm m
  simp only [List.mem_cons, List.not_mem_nil, or_false] at m
  rcases h with h | h <;> subst h <;> rcases m with m | m | m | m <;> subst m
  · exact ⟨by kernel_rfl, fun _ => ⟨false, some (.builtin "int.__radd__"), by kernel_rfl, by rw [typeLookup_type, builtinLookup_eq_fast]; kernel_rfl⟩⟩
  · exact ⟨by kernel_rfl, fun _ => ⟨false, some (.builtin "int.__rsub__"), by kernel_rfl, by rw [typeLookup_type, builtinLookup_eq_fast]; kernel_rfl⟩⟩
  · exact ⟨by kernel_rfl, fun _ => ⟨false, some (.builtin "int.__rmul__"), by kernel_rfl, by rw [typeLookup_type, builtinLookup_eq_fast]; kernel_rfl⟩⟩
  · exact ⟨by kernel_rfl, fun _ => ⟨false, some (.builtin "int.__rfloordiv__"), by kernel_rfl, by rw [typeLookup_type, builtinLookup_eq_fast]; kernel_rfl⟩⟩
  · exact ⟨by kernel_rfl, fun _ => ⟨false, some (.builtin "int.__radd__"), by kernel_rfl, by rw [typeLookup_type, builtinLookup_eq_fast]; kernel_rfl⟩⟩
  · exact ⟨by kernel_rfl, fun _ => ⟨false, some (.builtin "int.__rsub__"), by kernel_rfl, by rw [typeLookup_type, builtinLookup_eq_fast]; kernel_rfl⟩⟩
  · exact ⟨by kernel_rfl, fun _ => ⟨false, some (.builtin "int.__rmul__"), by kernel_rfl, by rw [typeLookup_type, builtinLookup_eq_fast]; kernel_rfl⟩⟩
  · exact ⟨by kernel_rfl, fun _ => ⟨false, some (.builtin "int.__rfloordiv__"), by kernel_rfl, by rw [typeLookup_type, builtinLookup_eq_fast]; kernel_rfl⟩⟩
/-- what stands right of an own operator is of a kind, or of another class -/
theorem tyop_kind (k : Kd) {nm : String} (m : nm ∈ ["add", "sub", "mul", "floordiv"]) : ∃ tf, TyOp k.nm nm tf := by
  cases k with
  | int => exact ⟨_, tyop_yes "int" (.inl rfl) nm m⟩
  | bl => exact ⟨_, tyop_yes "bool" (.inr rfl) nm m⟩
  | non => exact ⟨_, tyop_no "NoneType" (.inl rfl) nm m⟩
  | str => exact ⟨_, tyop_no "str" (.inr (.inl rfl)) nm m⟩
  | tup => exact ⟨_, tyop_no "tuple" (.inr (.inr (.inl rfl))) nm m⟩
  | lst => exact ⟨_, tyop_no "list" (.inr (.inr (.inr (.inl rfl)))) nm m⟩
  | dct => exact ⟨_, tyop_no "dict" (.inr (.inr (.inr (.inr rfl)))) nm m⟩
section
variable {prog : Program} {w : World} {A : Around} {E : Value → Shared → Prop} {s : Shared} {K : PySem.W.Frag} {x C D L f : Addr} {h₀ : Heap} {m : Str → Option Value} {ox : Obj} {od : Option Obj} {b : Value}
/-- a class that has no word for an operator -/
structure BareC (K : PySem.W.Frag) (D : Addr) (nm : String) : Prop where
  cd : ∃ cd, PySem.W.clsIn K D = some cd ∧ cd.mro = [.ref D, .type "object"]
  own : PySem.W.findIn K (.ref D) (PySem.dunder nm) = some none
  refl : PySem.W.findIn K (.ref D) (dunderR nm) = some none
open PySem.W PySem.Calls Builtin in
theorem fills_bare {M : Model} {h : Heap} {nm : String} (X : K.In h) (B : BareC K D nm) (o1 : typeLookup (.type "object") (PySem.dunder nm) = pure none) (o2 : typeLookup (.type "object") (dunderR nm) = pure none) : Looks M h (fillsNumberSlot (.ref D) nm) false := by
  obtain ⟨cd, hc, hm⟩ := B.cd
  intro A Q E s k q
  unfold fillsNumberSlot
  refine wpAny_bind ((looks_clsIn X hc).andThen (f := fun cd => pure cd.mro) .now A _ E s k ?_)
  rw [hm, List.anyM_cons]
  refine wpAny_bind ?_
  show wpAny M A (List.anyM _ [PySem.dunder nm, dunderR nm]) _ _ _
  rw [List.anyM_cons]
  refine wpAny_bind (wpAny_bind (looks_findIn X B.own A _ E s k ?_))
  refine wpAny_pure ?_
  rw [if_neg Bool.false_ne_true]
  rw [List.anyM_cons]
  refine wpAny_bind (wpAny_bind (looks_findIn X B.refl A _ E s k ?_))
  refine wpAny_pure ?_
  rw [if_neg Bool.false_ne_true, List.anyM_nil]
  refine wpAny_pure ?_
  rw [if_neg Bool.false_ne_true, List.anyM_cons]
  refine wpAny_bind ?_
  show wpAny M A (do let f ← typeLookup (.type "object") (PySem.dunder nm); let r ← typeLookup (.type "object") (dunderR nm); return (f.isSome && !isSeqSlot f) || (r.isSome && !isSeqSlot r)) _ _ _
  rw [o1, o2]
  refine wpAny_bind (wpAny_pure (wpAny_bind (wpAny_pure (wpAny_pure ?_))))
  show wpAny M A (if false = true then _ else _) _ _ _
  rw [if_neg Bool.false_ne_true, List.anyM_nil]
  exact wpAny_pure q
open PySem.W PySem.Calls Builtin in
theorem bin_bare {op : Operator} {Q : Value → Shared → Prop} (F : Fr h₀ L s.heap m) (X₀ : K.In h₀) (I : InstAt s.heap x ox C od) (hb : Looks (model prog w) s.heap (typeOf b) (.ref D)) (hCD : C ≠ D) (cC : BinC K C op.info.2) (cD : BareC K D op.info.2)
    (o1 : typeLookup (.type "object") (PySem.dunder op.info.2) = pure none) (o2 : typeLookup (.type "object") (dunderR op.info.2) = pure none) (hs : findIn K (.ref C) (PySem.dunder op.info.2) = some (some (.ref f))) (hf : isFn K (.ref f) = true)
    (h : wpAny (model prog w) A (call (.ref f) [.ref x, b]) (PySem.W.CmpBack Q) E s) : wpAny (model prog w) A (binaryOp op (.ref x) b) Q E s := by
  have X := X₀.keeps F.keep
  obtain ⟨cd, rest, hcd, hm⟩ := ksp_first cC.first
  have hrC := cC.refl
  have M4' := fills_bare (M := model prog w) X cD o1 o2
  rcases hi : op.info with ⟨sym, nm'⟩
  rw [hi] at hs hrC M4'
  dsimp only at hs hrC M4'
  have one := ksp_try X I hs hf h
  obtain ⟨hh, g, d, tt, os⟩ := s
  have M1 : Looks (model prog w) hh (typeOf (.ref x)) (.ref C) := I.type
  have M2 : Looks (model prog w) hh (typeOf b) (.ref D) := hb
  have M3 : Looks (model prog w) hh (fillsNumberSlot (.ref C) nm') true := fills_K X hcd hm hs
  have M4 : Looks (model prog w) hh (fillsNumberSlot (.ref D) nm') false := M4'
  have M6 : Looks (model prog w) hh (numberSlotInPython (.ref C) nm') true := ksp_inPy X hs hrC (.inl rfl)
  have hne : (Value.ref C == Value.ref D) = false := Bool.eq_false_iff.mpr fun q => by cases beq_iff_eq.mp q; exact hCD rfl
  simp only [binaryOp, hi]
  refine wpAny_holding (wpAny_bind ?_)
  unfold binaryOp1
  refine wpAny_bind (M1.at (wpAny_bind (M2.at (wpAny_bind (M3.at ?_)))))
  simp only [hne, Bool.false_eq_true, if_false]
  ksp_lk
  refine wpAny_mono one (fun r s' hr' => ?_) fun _ _ e => e
  obtain ⟨v, rfl, hq⟩ := hr'
  ksp_lk
  exact hq
end
/-- what may stand right: a value of a kind, an instance of the family, an instance of a class without such operators -/
def ROpd (K : PySem.W.Frag) (IsV : Addr → Prop) (CG : Addr) (H : Hp) (y : V) : Prop := (∃ kd, Of K H y kd) ∨ (∃ b D dy gs, y = .ref b ∧ IsV D ∧ H b = some (.ins D dy gs)) ∨ ∃ b dx fs, y = .ref b ∧ H b = some (.ins CG dx fs)
def rBinO (K : PySem.W.Frag) (IsV : Addr → Prop) (CG : Addr) (sp : Sp) (E : XK) : R2 := fun x y H Q => ∃ a C dx fs, x = .ref a ∧ IsV C ∧ H a = some (.ins C dx fs) ∧ ROpd K IsV CG H y ∧ sp [.ref a, y] H Q E
section
variable {X : Cx} {CX : CXT} {k : Nat} {IsV : Addr → Prop} {sp : Sp} {E : XK} {m : Str} {CG : Addr}
theorem sub_kind (kd : Kd) (C : Addr) : isSubtype (.type kd.nm) (.ref C) = pure false := by
  cases kd <;> (rw [isSubtype_type]; kernel_rfl)
theorem op_binO {op : Operator} (hn : PySem.dunder op.info.2 = m) (hmem : op.info.2 ∈ ["add", "sub", "mul", "floordiv"]) (h : ∀ C, IsV C → HasM X.prog X.w X.K X.mg X.base CX C m k ["self", "other"] sp) (bk : ∀ C D, IsV C → IsV D → BinK X.K C D op)
    (bc : ∀ C, IsV C → BinC X.K C op.info.2) (bg : BareC X.K CG op.info.2) (ng : ∀ C, IsV C → C ≠ CG) (g : Gd X.A) (hr : Room k X.A) (hx : Passes CX X E) : OpR X (binaryOp op) (rBinO X.K IsV CG sp E) := by
  intro pins s σ H x y v u Q I rx ry hq
  obtain ⟨a, C, dx, fs, rfl, vC, ha, opd, q⟩ := hq
  rcases opd with ⟨kd, ok⟩ | ⟨b, D, dy, gs, rfl, vD, hb⟩ | ⟨b, dg, gs, rfl, hb⟩
  · cases (show v = Value.ref a from rx)
    obtain ⟨f, fd, F, M, bi⟩ := (h C vC).ex
    obtain ⟨_, O1, _⟩ := ins_get I.hok ha
    obtain ⟨od, J, _⟩ := O1.look
    obtain ⟨m', fr⟩ := I.fr
    obtain ⟨Pk, Z, pk, _⟩ := kit_of I ry ok
    obtain ⟨tf, ty⟩ := tyop_kind kd hmem
    have at_ : PySem.W.findIn X.K (.ref C) (PySem.dunder op.info.2) = some (some (.ref f)) := by rw [hn]; exact M.at_
    refine bin_type fr I.mod.kin J (Z.ty _ _ I.kIn pk) ty (sub_kind kd C) (bc C vC) at_ M.fn ?_
    have b1 := bi s [.ref a, u] I.kIn rfl
    rw [List.append_nil] at b1
    apply wpAny_call
    refine codeAny_mono (F.go g hr I.env0 b1 (vs := [.ref a, y]) (.cons rfl (.cons ry .nil)) q) (fun res s' z => ?_)
    match res, z with
    | .error _, z => exact hx pins σ H _ _ s' I z
    | .ok (.ret _), z =>
      obtain ⟨v, H', I', rv, q2⟩ := I.after z
      exact rel_back rv ⟨v, H', I', rv, q2⟩
  · exact op_binV hn h bk g hr hx pins s σ H _ _ v u Q I rx ry ⟨a, b, C, D, dx, dy, fs, gs, rfl, rfl, vC, vD, ha, hb, q⟩
  · cases (show v = Value.ref a from rx)
    cases (show u = Value.ref b from ry)
    obtain ⟨f, fd, F, M, bi⟩ := (h C vC).ex
    obtain ⟨_, O1, _⟩ := ins_get I.hok ha
    obtain ⟨_, O2, _⟩ := ins_get I.hok hb
    obtain ⟨od, J, _⟩ := O1.look
    obtain ⟨od2, J2, _⟩ := O2.look
    obtain ⟨m', fr⟩ := I.fr
    have tb : PySem.W.Looks (model X.prog X.w) s.heap (typeOf (.ref b)) (.ref CG) := J2.type
    have at_ : PySem.W.findIn X.K (.ref C) (PySem.dunder op.info.2) = some (some (.ref f)) := by rw [hn]; exact M.at_
    have obj : ∀ nm ∈ ["add", "sub", "mul", "floordiv"], typeLookup (.type "object") (PySem.dunder nm) = pure none ∧ typeLookup (.type "object") (dunderR nm) = pure none := by
      intro nm m
      simp only [List.mem_cons, List.not_mem_nil, or_false] at m
      rcases m with m | m | m | m <;> subst m <;> exact ⟨by rw [typeLookup_type, builtinLookup_eq_fast]; kernel_rfl, by rw [typeLookup_type, builtinLookup_eq_fast]; kernel_rfl⟩
    refine bin_bare fr I.mod.kin J tb (ng C vC) (bc C vC) bg (obj _ hmem).1 (obj _ hmem).2 at_ M.fn ?_
    have b1 := bi s [.ref a, .ref b] I.kIn rfl
    rw [List.append_nil] at b1
    apply wpAny_call
    refine codeAny_mono (F.go g hr I.env0 b1 (vs := [.ref a, .ref b]) (.cons rfl (.cons rfl .nil)) q) (fun res s' z => ?_)
    match res, z with
    | .error _, z => exact hx pins σ H _ _ s' I z
    | .ok (.ret _), z =>
      obtain ⟨v, H', I', rv, q2⟩ := I.after z
      exact rel_back rv ⟨v, H', I', rv, q2⟩
end
end GL
/-! a text compared with an instance that has an own ==; values of any kind in a tuple of texts -/
namespace GL
open PySem PySem.Spec PyProof.Rows L2
section
variable {prog : Program} {w : World} {A : Around} {E : Value → Shared → Prop} {s : Shared} {K : PySem.W.Frag} {b C f : Addr} {ob : Obj} {od : Option Obj} {y : Str} {t : Tok}
open PySem.W PySem.Calls Builtin in
theorem str_declines {Q : Option Value → Shared → Prop} (ho : s.heap.get? b = some ob) (np : ∀ x u, ob.data ≠ .prim (.str x u)) (q : Q none s) : wpAny (model prog w) A (tryCompare (.str y t) "__eq__" (.ref b)) Q E s := by
  refine wpAny_tryCompare_declines (id := "str.__eq__") (typeIs_str s y t) F.slot_str_eq ?_
  refine wpAny_call (codeAny_call_builtin F.slot_str_eq.plain F.entry_str_eq (F.slot_str_eq.check _ _ _ _ _ _ _ _ (typeIs_str s y t) (F.args_str_eq_2 _ _) ?_))
  show wpAny _ _ (Builtin.Str.strCompare "__eq__" (· == ·) ⟨[.str y t, .ref b], []⟩) _ _ _
  unfold Builtin.Str.strCompare
  refine wpAny_bind (wpAny_of_eq (a := ((Value.str y t : Value), y, [Value.ref b])) (by rfl) ?_)
  have as_ : wpAny (model prog w) (A.under (.builtin "str.__eq__" ⟨[.str y t, .ref b], []⟩)) (asStr? (.ref b)) (fun r s' => r = none ∧ s' = s) (fun _ _ => False) s := by
    obtain ⟨hh, g, d, tt, os⟩ := s
    unfold asStr?
    refine wpAny_bind (wpAny_load ho ?_)
    cases e : ob.data with
    | prim v => cases v with
      | str x u => exact absurd e (np x u)
      | _ => exact wpAny_pure ⟨rfl, rfl⟩
    | _ => exact wpAny_pure ⟨rfl, rfl⟩
  refine wpAny_bind (wpAny_mono as_ (fun r s' z => ?_) (fun _ _ z => z.elim))
  obtain ⟨rfl, rfl⟩ := z
  exact wpAny_bind (wpAny_rule (wpAny_pure ⟨rfl, q⟩))
open PySem.W PySem.Calls Builtin in
/-- y == b, y a text, b an instance with an own == -/
theorem str_eq_own {Q : Value → Shared → Prop} (hu : A.units < cLine) (X : K.In s.heap) (I : PySem.W.InstAt s.heap b ob C od) (np : ∀ x u, ob.data ≠ .prim (.str x u)) (sub : PySem.W.subIn K (.ref C) (.type "str") = some false)
    (hs : PySem.W.findIn K (.ref C) "__eq__" = some (some (.ref f))) (hf : PySem.W.isFn K (.ref f) = true) (h : wpAny (model prog w) A (call (.ref f) [.ref b, .str y t]) (PySem.W.CmpBack Q) E s) :
    wpAny (model prog w) A (richCompare .Eq (.str y t) (.ref b)) Q E s := by
  have one : wpAny (model prog w) A (tryCompare (.ref b) "__eq__" (.str y t)) (fun r s' => ∃ v, r = some v ∧ Q v s') E s := by
    unfold tryCompare
    refine wpAny_bind (ifBound_K X I hs hf (wpAny_mono h (fun v s' hv => ?_) fun _ _ e => e))
    cases v <;> first | exact hv.elim | exact wpAny_pure ⟨_, rfl, hv⟩
  unfold richCompare
  refine wpAny_holding (wpAny_bind (wpAny_cRoomFor hu ?_))
  have e1 : oneThing? CmpOp.Eq (.str y t) (.ref b) = none := by first | rfl | (unfold oneThing?; rfl) | (simp [oneThing?])
  rw [e1]
  have e2 : typeOf (.str y t) = pure (.type "str") := rfl
  simp only [cmpInfo, e2]
  refine wpAny_bind (wpAny_pure (wpAny_bind (I.type.here ?_)))
  have e3 : (Value.type "str" != Value.ref C) = true := rfl
  rw [if_pos e3]
  refine wpAny_bind ((looks_subIn X sub).here ?_)
  simp only [Bool.false_eq_true, if_false]
  refine wpAny_bind (str_declines I.at_ np ?_)
  refine wpAny_bind (wpAny_mono one (fun r s' z => ?_) fun _ _ e => e)
  obtain ⟨v, rfl, hq⟩ := z
  exact wpAny_pure hq
end
end GL
namespace GL
open PySem PySem.Spec PyProof.Rows L2
section
variable {X : Cx} {CX : CXT} {k : Nat} {C : Addr} {sp : Sp} {E : XK}
/-- x in (y, ..): texts, x an instance whose own == tells them all apart from it -/
def rInO (C : Addr) (sp : Sp) (E : XK) (ys : List Str) (K : PySem.W.Frag) : R2 := fun x t H Q => ∃ a dx fs p, x = .ref a ∧ t = .ref p ∧ H a = some (.ins C dx fs) ∧ SqT K H p (ys.map V.str) ∧ (∀ y ∈ ys, sp [.ref a, .str y] H (fun v H' => v = .bl false ∧ H' = H) E) ∧ Q (.bl false) H
theorem strs_are {us : List Value} : ∀ {ys : List Str}, Vals (ys.map V.str) us → StrsAre us ys := by
  induction us with
  | nil =>
    intro ys h
    cases ys with
    | nil => exact .nil
    | cons y r => cases h
  | cons u r ih =>
    intro ys h
    cases ys with
    | nil => cases h
    | cons y ys =>
      cases h with
      | cons h1 h2 =>
        obtain ⟨t, rfl⟩ := h1
        exact .cons y t (ih h2)
open PySem.W PySem.Calls in
theorem contains_own {ys : List Str} (h : HasM X.prog X.w X.K X.mg X.base CX C "__eq__" k ["self", "other"] sp) (sub : PySem.W.subIn X.K (.ref C) (.type "str") = some false) (g : Gd X.A) (hr : Room (k + 1) X.A) (hx : Passes CX X E) {pins : List (Addr × Obj)} {s : Shared} {σ : L2.St} {H : Hp} {a dx p : Addr} {fs : List (Str × V)} (I : Inv X pins σ H s) (ha : H a = some (.ins C dx fs)) (hT : SqT X.K H p (ys.map V.str))
    (all : ∀ y ∈ ys, sp [.ref a, .str y] H (fun v H' => v = .bl false ∧ H' = H) E) : wpAny (model X.prog X.w) X.A (contains (.ref p) (.ref a)) (fun r s' => r = false ∧ Inv X pins σ H s') X.xe s := by
  obtain ⟨f, fd, F, M, bi⟩ := h.ex
  obtain ⟨its, rv, ⟨o, ho, hc, n, hd⟩, _⟩ := I.tuple hT
  have sa := strs_are rv
  unfold contains
  refine wpAny_holding ?_
  have ht : s.TypeIs (.ref p) "tuple" := ⟨o, ho, hc⟩
  refine wpAny_bind (wpAny_specialOf ht slot_tuple_contains.lookup ?_)
  rw [if_neg (by decide)]
  refine wpAny_bind (wpAny_callSpecialUnlessNone?_slot (name := Str.ofString "__contains__") ht slot_tuple_contains (wpAny_call_entry slot_tuple_contains ht entry_tuple_contains ?_ (args_tuple_contains _ _)))
  have start : IsTup s.heap p its.toArray := by
    refine ⟨o, ho, hc, n, ?_⟩
    simpa using hd
  show wpAny _ _ (Builtin.Tuple.tupleItemsOf (.ref p) >>= _) _ _ s
  refine wpAny_bind (tupleItemsOf_ start ?_)
  refine wpAny_bind (forIn_array_ _ (fun rest b s' => b.1 = none ∧ Inv X pins σ H s' ∧ ∃ ms, StrsAre rest ms ∧ ∀ y ∈ ms, y ∈ ys) _ ?_ ?_ its.toArray _ ⟨rfl, I, ys, by simpa using sa, fun _ h => h⟩)
  · rintro it rest b s' ⟨hb, I', ms, hm, sub_⟩
    cases hm with
    | cons y tk hm' =>
      obtain ⟨mA, O1, _⟩ := ins_get I'.hok ha
      obtain ⟨od, J, _⟩ := O1.look
      have b1 := bi s' [.ref a, .str y tk] I'.kIn rfl
      rw [List.append_nil] at b1
      refine wpAny_bind ?_
      unfold eqBool
      refine wpAny_holding ?_
      show wpAny _ _ (if (Value.str y tk == Value.ref a) = true then _ else _) _ _ _
      rw [if_neg (show ¬ ((Value.str y tk == Value.ref a) = true) from by intro z; cases (eq_of_beq z))]
      refine wpAny_bind (str_eq_own (by have := hr.un; show X.A.units + 1 < cLine; omega) I'.kIn J (fun x u z => by cases z) sub M.at_ M.fn ?_)
      apply wpAny_call
      refine codeAny_mono (F.go (A := X.A.in1) g hr.in1 I'.env0.in1 b1 (vs := [.ref a, .str y]) (.cons rfl (.cons ⟨tk, rfl⟩ .nil)) (all y (sub_ y (List.mem_cons_self ..)))) (fun res s2 z => ?_)
      match res, z with
      | .error _, z => exact hx pins σ H _ _ s2 I' z
      | .ok (.ret _), z =>
        obtain ⟨v, H', I2, rv2, e1, e2⟩ := I'.after z
        subst e1 e2
        cases (show _ = Value.bool false from rv2)
        exact wpAny_truthy_bool (wpAny_pure ⟨rfl, I2, _, hm', fun z hz => sub_ z (List.mem_cons_of_mem _ hz)⟩)
  · rintro ⟨b1, b2⟩ s' ⟨hb, I', ms, hm, _⟩
    simp only at hb
    subst hb
    exact wpAny_pure ⟨_, rfl, wpAny_truthy_bool ⟨rfl, I'⟩⟩
theorem op_inO {ys : List Str} (h : HasM X.prog X.w X.K X.mg X.base CX C "__eq__" k ["self", "other"] sp) (sub : PySem.W.subIn X.K (.ref C) (.type "str") = some false) (g : Gd X.A) (hr : Room (k + 1) X.A) (hx : Passes CX X E) :
    OpR X (compareOp .In) (rInO C sp E ys X.K) := by
  intro pins s σ H x y v u Q I rx ry hq
  obtain ⟨a, dx, fs, p, rfl, rfl, ha, hT, all, q⟩ := hq
  cases (show v = Value.ref a from rx)
  cases (show u = Value.ref p from ry)
  show wpAny (model X.prog X.w) X.A (do return Value.bool (← contains (.ref p) (.ref a))) _ _ s
  refine wpAny_bind (wpAny_mono (contains_own h sub g hr hx I ha hT all) (fun r s' z => ?_) fun _ _ e => e)
  obtain ⟨rfl, I'⟩ := z
  exact wpAny_pure ⟨.bl false, H, I', rfl, q⟩
def rNotInO (C : Addr) (sp : Sp) (E : XK) (ys : List Str) (K : PySem.W.Frag) : R2 := fun x t H Q => ∃ a dx fs p, x = .ref a ∧ t = .ref p ∧ H a = some (.ins C dx fs) ∧ SqT K H p (ys.map V.str) ∧ (∀ y ∈ ys, sp [.ref a, .str y] H (fun v H' => v = .bl false ∧ H' = H) E) ∧ Q (.bl true) H
theorem op_notInO {ys : List Str} (h : HasM X.prog X.w X.K X.mg X.base CX C "__eq__" k ["self", "other"] sp) (sub : PySem.W.subIn X.K (.ref C) (.type "str") = some false) (g : Gd X.A) (hr : Room (k + 1) X.A) (hx : Passes CX X E) :
    OpR X (compareOp .NotIn) (rNotInO C sp E ys X.K) := by
  intro pins s σ H x y v u Q I rx ry hq
  obtain ⟨a, dx, fs, p, rfl, rfl, ha, hT, all, q⟩ := hq
  cases (show v = Value.ref a from rx)
  cases (show u = Value.ref p from ry)
  show wpAny (model X.prog X.w) X.A (do return Value.bool (!(← contains (.ref p) (.ref a)))) _ _ s
  refine wpAny_bind (wpAny_mono (contains_own h sub g hr hx I ha hT all) (fun r s' z => ?_) fun _ _ e => e)
  obtain ⟨rfl, I'⟩ := z
  exact wpAny_pure ⟨.bl true, H, I', rfl, q⟩
end
end GL
/-! what stays while lambdas are handed to a def: all but the dice and the tables -/
namespace GL
open PySem PySem.Spec PyProof.Rows L2 LamX
/-- the heap without the dice at p and without tables -/
def mask (p : Addr) (H : Hp) : Hp := fun b => if b = p then none else match H b with | some (.tbl _) => none | x => x
theorem mask_p {p : Addr} {H : Hp} : mask p H p = none := if_pos rfl
theorem mask_at {p b : Addr} {H : Hp} {o : HO} (e : H b = some o) (n : b ≠ p) (nt : ∀ ps, o ≠ .tbl ps) : mask p H b = some o := by
  unfold mask
  rw [if_neg n, e]
  cases o <;> first | rfl | exact absurd rfl (nt _)
theorem mask_of {p b : Addr} {H : Hp} {o : HO} (e : mask p H b = some o) : H b = some o ∧ b ≠ p ∧ ∀ ps, o ≠ .tbl ps := by
  unfold mask at e
  split at e
  · cases e
  · rename_i n
    split at e
    · cases e
    · rename_i nt
      refine ⟨e, n, fun ps z => ?_⟩
      subst z
      exact nt _ e
theorem mask_same {p : Addr} {H : Hp} : Same (mask p H) H := fun b o e => (mask_of e).1
theorem die_ne {p b : Addr} {H : Hp} {o : HO} (d : Die H p) (e : H b = some o) (n : ∀ xs, o ≠ .lst xs) : b ≠ p := by
  obtain ⟨_, _, _, _, e0⟩ := d
  exact ne_of e e0 (n _)
theorem die_new {p b : Addr} {H : Hp} (d : Die H p) (e : H b = none) : b ≠ p := by
  obtain ⟨_, _, _, _, e0⟩ := d
  intro z
  rw [z, e0] at e
  cases e
/-- M, what stays; H, the heap now -/
structure St (T : List (Addr × Str)) (p : Addr) (M H : Hp) : Prop where
  same : Same M H
  mp : M p = none
  nt : ∀ b ps, M b ≠ some (.tbl ps)
  die : Die H p
  tabs : Tabs T H
section
variable {T : List (Addr × Str)} {p : Addr} {M H H' : Hp}
theorem St.start (d : Die H p) (t : Tabs T H) : St T p (mask p H) H := ⟨mask_same, mask_p, fun b ps z => (mask_of z).2.2 ps rfl, d, t⟩
theorem die_lst (d : Die H p) : ∃ xs, H p = some (.lst xs) := let ⟨_, _, _, _, e⟩ := d; ⟨_, e⟩
theorem St.met (s : St T p M H) (e : ExtN H H') (t : Tabs T H') : St T p M H' := by
  refine ⟨fun b o h => e b o (s.same b o h) (fun ps z => s.nt b ps (by rw [h, z])), s.mp, s.nt, ?_, t⟩
  obtain ⟨l, b, c, h0, e0⟩ := s.die
  exact ⟨l, b, c, h0, e p _ e0 (fun ps z => by cases z)⟩
theorem tabs_keep (t : Tabs T H) (k : ∀ b o, H b = some o → (∀ xs, o ≠ .lst xs) → H' b = some o) : Tabs T H' := fun q hq => by
  obtain ⟨ps, h1, h2, h3⟩ := t q hq
  refine ⟨ps, k _ _ h1 (fun _ z => by cases z), h2, fun pos cv hc => ?_⟩
  obtain ⟨c, e1, e2⟩ := h3 pos cv hc
  exact ⟨c, e1, k _ _ e2 (fun _ z => by cases z)⟩
theorem St.got (s : St T p M H) (g : Got p H H') : St T p M H' := by
  obtain ⟨xs, e0⟩ := die_lst s.die
  exact ⟨fun b o h => g.keep b o (s.same b o h) (fun z => by rw [z, s.mp] at h; cases h), s.mp, s.nt, g.die, tabs_keep s.tabs (fun b o e n => g.keep b o e (fun z => by rw [z, e0] at e; cases e; exact n _ rfl))⟩
theorem St.ext (s : St T p M H) (g : Same H H') : St T p M H' := ⟨fun b o h => g b o (s.same b o h), s.mp, s.nt, let ⟨l, b, c, h0, e0⟩ := s.die; ⟨l, b, c, h0, g _ _ e0⟩, s.tabs.ext g⟩
/-- a list of ours is written, or made -/
theorem St.over {L : Addr} {o : HO} (s : St T p M H) (n : M L = none) (np : L ≠ p) (was : H L = none ∨ ∃ xs, H L = some (.lst xs)) : St T p M (upd H L o) := by
  refine ⟨fun b u h => ?_, s.mp, s.nt, ?_, tabs_keep s.tabs (fun b u e nl => ?_)⟩
  · rw [upd_ne (fun z => by rw [z, n] at h; cases h)]
    exact s.same b u h
  · obtain ⟨l, b, c, h0, e0⟩ := s.die
    exact ⟨l, b, c, h0, by rw [upd_ne (Ne.symm np)]; exact e0⟩
  · rw [upd_ne (fun z => ?_)]
    · exact e
    · rw [z] at e
      rcases was with w | ⟨xs, w⟩
      · rw [w] at e; cases e
      · rw [w] at e; cases e; exact nl _ rfl
theorem St.re (s : St T p M H) : St T p (mask p H) H := St.start s.die s.tabs
theorem St.grow (s : St T p M H) : Same M (mask p H) := fun b o e => mask_at (s.same b o e) (fun z => by rw [z, s.mp] at e; cases e) (fun ps z => s.nt b ps (by rw [e, z]))
end
section
variable {K : PySem.W.Frag} {C CV CM D : Addr} {U : Bool → Addr} {p : Addr} {H : Hp} {t : Bool} {u : Int × Int}
theorem gridAt_mask {g : Addr} (h : GridAt C U H g t) (d : Die H p) : GridAt C U (mask p H) g t := let ⟨dx, e⟩ := h; ⟨dx, mask_at e (die_ne d e (fun _ z => by cases z)) (fun _ z => by cases z)⟩
theorem pAt_mask {a : Addr} (h : PAt K H a u) (d : Die H p) : PAt K (mask p H) a u := by
  rcases h with (z | ⟨o, z⟩) | z
  · exact .inl (.inl (mask_at z (die_ne d z (fun _ z => by cases z)) (fun _ z => by cases z)))
  · exact .inl (.inr ⟨o, mask_at z (die_ne d z (fun _ z => by cases z)) (fun _ z => by cases z)⟩)
  · exact .inr z
theorem vecAt_mask {v : Addr} (h : VecAt K C U D H v t u) (d : Die H p) : VecAt K C U D (mask p H) v t u :=
  let ⟨dx, g, a, e, hg, hp⟩ := h
  ⟨dx, g, a, mask_at e (die_ne d e (fun _ z => by cases z)) (fun _ z => by cases z), gridAt_mask hg d, pAt_mask hp d⟩
end
/-- what a part leaves: all but the dice and the tables -/
def GotT (T : List (Addr × Str)) (p : Addr) (H H' : Hp) : Prop := Same (mask p H) H' ∧ Die H' p ∧ Tabs T H'
theorem St.done {T : List (Addr × Str)} {p : Addr} {M H H' : Hp} (s : St T p M H') (g : Same (mask p H) M) : GotT T p H H' := ⟨fun b o e => s.same b o (g b o e), s.die, s.tabs⟩
theorem GotT.trans {T : List (Addr × Str)} {p : Addr} {H H1 H2 : Hp} (a : GotT T p H H1) (b : GotT T p H1 H2) : GotT T p H H2 := by
  refine ⟨fun c o e => ?_, b.2.1, b.2.2⟩
  have k := mask_of e
  exact b.1 c o (mask_at (a.1 c o e) k.2.1 k.2.2)
/-! ### a def that tells its code object -/
structure Dl (K : PySem.W.Frag) (mg : Str → Option Value) (x : Str) (st : Stmt) (c : Addr) : Prop where
  ex : ∃ (f : Addr) (oc kV doc pm ct : Value) (od an : Option Addr) (osl : Array (Option Value)), K.lookup f = some ⟨oc, od, .func (PySem.W.fnOf x x (defArgs st) (defBody st) (defScope st) .none kV doc pm an (.ref c) ct), osl⟩ ∧ PySem.W.codeIn K (.ref c) x = true ∧ PySem.W.keepIn K (.ref f) = true ∧ mg x = some (.ref f)
section
variable {P : Program} {w : World} {K : PySem.W.Frag} {mg : Str → Option Value} {base : Heap} {k : Nat} {ps N : List Str} {sp : Sp} {x : Str} {st : Stmt} {c : Addr}
theorem dl_mk {h : Heap} {f : Addr} {oc : Value} {od an : Option Addr} {osl : Array (Option Value)} {kV doc pm ct : Value} (X : K.In h) (G : h.Ns mainGlobals mg)
    (a : PySem.W.nsIn K mainGlobals x = some (some (.ref f))) (l : K.lookup f = some ⟨oc, od, .func (PySem.W.fnOf x x (defArgs st) (defBody st) (defScope st) .none kV doc pm an (.ref c) ct), osl⟩)
    (cd : PySem.W.codeIn K (.ref c) x = true) (kp : PySem.W.keepIn K (.ref f) = true) : Dl K mg x st c := ⟨f, oc, kV, doc, pm, ct, od, an, osl, l, cd, kp, PySem.W.mg_of X G a⟩
theorem Dl.hasL (D : Dl K mg x st c) (S : FnScope N ps (defScope st)) (len : ∀ vs H Q E, sp vs H Q E → vs.length = ps.length)
    (bi : ∀ (kV doc pm : Value) (an : Option Addr) (cdv ct : Value) (us : List Value), us.length = ps.length → bindArgs (PySem.W.fnOf x x (defArgs st) (defBody st) (defScope st) .none kV doc pm an cdv ct) ⟨us, []⟩ = pure (ps.zip us))
    (body : ∀ (f : Addr) (A : Around) (outer : List Env) (s : Shared) (H : Hp) (vs : List V) (Q : VK) (E : XK), Gd (A.deeper (envOfC x (defScope st) s.heap.objs.size f (.ref c))) → Room k (A.deeper (envOfC x (defScope st) s.heap.objs.size f (.ref c))) → sp vs H Q E →
      ∃ t, PSs (cxOf CX0 P w K mg base N x (defScope st) f (.ref c) A outer s H E).nox (defBody st) t ∧ t { nx := fun _ H' => Q .non H', rt := Q } (start N vs) H) : Has P w K mg base CX0 x (k + 1) ps sp := by
  obtain ⟨f, oc, kV, doc, pm, ct, od, an, osl, at_, cR, kp, m⟩ := D.ex
  have F : Fun K x x st f (PySem.W.fnOf x x (defArgs st) (defBody st) (defScope st) .none kV doc pm an (.ref c) ct) := fun_mk at_ cR kp
  refine ⟨f, _, ?_, m, kp, .all (bi kV doc pm an (.ref c) ct)⟩
  constructor
  · exact len
  intro A outer s H args us vs Q E g room e0 bi vals asked
  have inK : K.In s.heap := e0.mod.kin.keeps (fun b o q => (e0.bs b o q).1)
  have line : s.heap.NoLimit := e0.mod.nolimit.keeps (fun b o q => (e0.bs b o q).1)
  have kinds : ∀ y ∈ ps.zip us, (defScope st).names.lookup y.1 = some .local ∨ ((defScope st).names.lookup y.1 = some .cell ∧ ((cellsFrom (s.heap.objs.size + 1) (defScope st).names []).lookup y.1).isSome = true) := by
    intro ⟨n, v⟩ hy
    cases S.par n (List.of_mem_zip hy).1 with
    | inl q => exact Or.inl q
    | inr q => exact Or.inr ⟨q, PySem.W.cellsFrom_some _ _ _ (Or.inl q)⟩
  apply codeAny_call_function room.depth (inK _ _ at_) rfl S.co S.gen rfl (PySem.W.codeRec_of inK cR)
  apply bi
  refine wpAny_newFunctionEnv_cells S.kind kinds (fun env eE s1 x1 => ?_)
  subst eE
  obtain ⟨t, rule0, q⟩ := body f A outer s H vs Q E g (room.deeper _) asked
  have rule := rule0.nox
  have I0 := inv_start (CX := CX0) (E := E) S room.hd e0 (len _ _ _ _ asked) vals x1
  refine ⟨line.keeps x1.toInCall.keep, codeAny_func (wpAny_mono (rule.run [] s1 _ H _ I0 q) (fun fl s' done => ?_) (fun _ _ z => z))⟩
  cases fl with
  | ret u => obtain ⟨v, _, H', J, rv, qv⟩ := done; exact ⟨v, H', J.os, J.bare, J.base, J.hok, rv, qv⟩
  | next => obtain ⟨_, H', J, qv⟩ := done; exact ⟨V.non, H', J.os, J.bare, J.base, J.hok, rfl, qv⟩
  | brk => obtain ⟨_, _, _, z⟩ := done; exact z.elim
  | cont => obtain ⟨_, _, _, z⟩ := done; exact z.elim
end
end GL
/-! a class that is called and may raise; not in a tuple of texts, for values of any kind -/
namespace GL
open PySem PySem.Spec PyProof.Rows L2
structure HasGX (P : Program) (w : World) (K : PySem.W.Frag) (mg : Str → Option Value) (base : Heap) (CX : CXT) (x : Str) (C : Addr) (k : Nat) (ps : List Str) (sp : Sp) : Prop where
  ex : ∃ f fd, FnG P w K mg base CX k f fd ps sp ∧ mg x = some (.ref C) ∧ Mk K C f ∧ Binds K fd ps []
section
variable {X : Cx} {CX : CXT} {k : Nat} {f C : Addr} {fd : FuncData} {ps : List Str} {sp : Sp} {E : XK} {x : Str} {p pos : Pos} {e : Expr} {es : List Expr} {t : TA}
theorem pe_makeGX (h : HasGX X.prog X.w X.K X.mg X.base CX x C k ps sp) (g : Gd X.A) (hr : Room (k + 1) X.A) (hx : Passes CX X E) (ha : PA X (e :: es) t) (hg : Gl X x := by exact rfl)
    (hdb : (x == ("__debug__" : Str)) = false := by decide) (he : starEach (e :: es) X.env = (false, eval e X.env) :: starEach es X.env := by rfl) (hpl : (backTo pos (starEach es X.env)).any (·.1) = false := by rfl) :
    PE X (.Call (.Name x p) (e :: es) [] pos) (tMake C sp [] E t) := by
  obtain ⟨f, fd, F, m, M, b⟩ := h.ex
  refine ⟨fun pins s σ H Q I q => ?_⟩
  refine wpAny_Call_Name_kw (ld_glob I hg m ?_ hdb)
  refine PySem.W.callWith_K (h₀ := X.base) I.ok.mod.kin M.kp (thn (ha.run pos pins s σ H _ I q) fun us s1 ⟨vs, H1, I1, r, q1⟩ => ?_) he hpl
  exact ⟨I1.kIn, run_makeG M F g hr b hx I1 r q1⟩
end
theorem Dc.hasGX {P : Program} {w : World} {K : PySem.W.Frag} {mg : Str → Option Value} {base : Heap} {C : Addr} {x qual : Str} {st : Stmt} {N ps : List Str} {k : Nat} {sp : Sp} (D : Dc K C qual st) (m : mg x = some (.ref C)) (S : FnScope N ps (defScope st)) (len : ∀ vs H Q E, sp vs H Q E → vs.length = ps.length)
    (bi : ∀ (kV doc pm : Value) (an : Option Addr) (cdv ct : Value) (us : List Value), us.length = ps.length → bindArgs (PySem.W.fnOf "__init__" qual (defArgs st) (defBody st) (defScope st) .none kV doc pm an cdv ct) ⟨us, []⟩ = pure (ps.zip us))
    (body : ∀ (f : Addr) (cdv : Value) (A : Around) (outer : List Env) (s : Shared) (H : Hp) (vs : List V) (Q : VK) (E : XK), Gd (A.deeper (envOfC qual (defScope st) s.heap.objs.size f cdv)) → Room k (A.deeper (envOfC qual (defScope st) s.heap.objs.size f cdv)) → sp vs H Q E →
      ∃ t, PSs (cxOf (L2.CX P w) P w K mg base N qual (defScope st) f cdv A outer s H E) (defBody st) t ∧ t { nx := fun _ H' => Q .non H', rt := Q } (start N vs) H) : HasGX P w K mg base (L2.CX P w) x C (k + 1) ps sp := by
  obtain ⟨f, fd, F, M⟩ := D.ex
  exact ⟨f, fd, fnG_mk F S len (body f), m, M, F.binds bi⟩
/-! ### not in a tuple of texts -/
def Dr (K : PySem.W.Frag) (H : Hp) (x : V) (d : PyData) : Prop := Dp K H x d ∨ Dq K H x d
def rNotInQ (K : PySem.W.Frag) : R2 := fun x t H Q => ∃ d p, ∃ ys : List Str, Dr K H x d ∧ t = .ref p ∧ SqT K H p (ys.map V.str) ∧ d.canLay0 = true ∧ PyData.canLayAll0 (ys.map PyData.str) = true ∧ Q (.bl (!(ys.map PyData.str).any fun z => PyData.eqv z d)) H
theorem dp_strs {K : PySem.W.Frag} {H : Hp} : ∀ {ys : List Str}, DpAll K H (ys.map V.str) (ys.map PyData.str)
  | [] => .nil
  | y :: _ => .cons (.str y) dp_strs
theorem depth_strs : ∀ (ys : List Str), PyData.depthAll (ys.map PyData.str) = 0
  | [] => by simp [PyData.depthAll]
  | y :: r => by simp [PyData.depthAll, PyData.depth, depth_strs r]
section
variable {X : Cx} {CX : CXT} {k : Nat} {C : Addr} {sp : Sp} {E : XK}
theorem op_notInQ (hu : X.A.units + 66 < cLine) : OpR X (compareOp .NotIn) (rNotInQ X.K) := by
  intro pins s σ H x y v u Q I rx ry asked
  obtain ⟨d, p, ys, hd, rfl, ht, ld, ls, q⟩ := asked
  obtain ⟨_, r1⟩ : ∃ as, Reads s.heap v d as := hd.elim (fun h => Dp.reads I d x v h rx) (fun h => Dq.reads I h rx)
  obtain ⟨_, r2⟩ := Dp.reads I (.tuple (ys.map PyData.str)) _ u (.tup ht dp_strs) ry
  exact SeqAt.notIn_tuple_reads r2 r1 ls ld (by rw [depth_strs]; have := Nat.min_le_left 0 d.depth; omega) ⟨.bl _, H, I, rfl, q⟩
theorem op_or {op : Value → Value → Sem Value} {r1 r2 : R2} (h1 : OpR X op r1) (h2 : OpR X op r2) : OpR X op (fun x y H Q => r1 x y H Q ∨ r2 x y H Q) := fun pins s σ H x y v u Q I rx ry h => h.elim (h1 pins s σ H x y v u Q I rx ry) (h2 pins s σ H x y v u Q I rx ry)
theorem op_notInG {ys : List Str} (hu : X.A.units + 66 < cLine) (h : HasM X.prog X.w X.K X.mg X.base CX C "__eq__" k ["self", "other"] sp) (sub : PySem.W.subIn X.K (.ref C) (.type "str") = some false) (g : Gd X.A) (hr : Room (k + 1) X.A) (hx : Passes CX X E) :
    OpR X (compareOp .NotIn) (fun x y H Q => rNotInQ X.K x y H Q ∨ rNotInO C sp E ys X.K x y H Q) := op_or (op_notInQ hu) (op_notInO h sub g hr hx)
end
end GL
/-! an empty dict beside texts and tuples -/
namespace GL
open PySem PySem.Spec PyProof.Rows L2 PySem.SeqAt
section
variable {prog : Program} {w : World} {A : Around} {E : Value → Shared → Prop} {s : Shared} {a b : Addr} {o : Obj}
open PySem.W PySem.Calls Builtin in
theorem dict_declines {T : String} {u : Value} {Q : Value → Shared → Prop} (ta : s.TypeIs (.ref a) "dict") (tu : s.TypeIs u T) (sub : isSubtype (.type T) (.type "dict") = pure false) (q : Q .notImplemented s) : wpAny (model prog w) A (call (.builtin "dict.__eq__") [.ref a, u]) Q E s := by
  refine wpAny_call_entry PySem.F.slot_dict_eq ta PySem.F.entry_dict_eq ?_ (PySem.F.args_dict_eq_2 _ _)
  show wpAny _ _ (Builtin.Dict.dictSlotArgs "__eq__" ⟨[.ref a, u], []⟩ >>= _) _ _ s
  refine wpAny_bind ?_
  unfold Builtin.Dict.dictSlotArgs
  refine wpAny_bind (wpAny_notOrdered_dict ta ?_)
  show wpAny _ _ (pure (Value.ref a, u)) _ _ s
  refine wpAny_pure ?_
  refine wpAny_bind (wpAny_isInstance (T := T) tu sub ?_)
  simp only [Bool.not_false, if_true]
  exact wpAny_bind (wpAny_rule (wpAny_pure ⟨_, rfl, q⟩))
open PySem.W PySem.Calls Builtin in
theorem str_call_declines {y : Str} {t : Tok} {Q : Value → Shared → Prop} (ho : s.heap.get? b = some o) (np : ∀ x u, o.data ≠ .prim (.str x u)) (q : Q .notImplemented s) : wpAny (model prog w) A (call (.builtin "str.__eq__") [.str y t, .ref b]) Q E s := by
  refine wpAny_call (codeAny_call_builtin F.slot_str_eq.plain F.entry_str_eq (F.slot_str_eq.check _ _ _ _ _ _ _ _ (typeIs_str s y t) (F.args_str_eq_2 _ _) ?_))
  show wpAny _ _ (Builtin.Str.strCompare "__eq__" (· == ·) ⟨[.str y t, .ref b], []⟩) _ _ _
  unfold Builtin.Str.strCompare
  refine wpAny_bind (wpAny_of_eq (a := ((Value.str y t : Value), y, [Value.ref b])) (by rfl) ?_)
  have as_ : wpAny (model prog w) (A.under (.builtin "str.__eq__" ⟨[.str y t, .ref b], []⟩)) (asStr? (.ref b)) (fun r s' => r = none ∧ s' = s) (fun _ _ => False) s := by
    obtain ⟨hh, g, d, tt, os⟩ := s
    unfold asStr?
    refine wpAny_bind (wpAny_load ho ?_)
    cases e : o.data with
    | prim v => cases v with
      | str x u => exact absurd e (np x u)
      | _ => exact wpAny_pure ⟨rfl, rfl⟩
    | _ => exact wpAny_pure ⟨rfl, rfl⟩
  refine wpAny_bind (wpAny_mono as_ (fun r s' z => ?_) (fun _ _ z => z.elim))
  obtain ⟨rfl, rfl⟩ := z
  exact wpAny_bind (wpAny_rule (wpAny_pure q))
theorem tuple_eq_declines_dict (l b : Addr) (items : Array Value) (es : Array DictEntry) (n n2 : Nat) (dd dd2 : Option Addr) (sl sl2 : Array (Option Value)) :
    Meets (Builtin.«tuple.__eq__» ⟨[.ref l, .ref b], []⟩) (fun _ R s => s.heap.get? l = some { cls := .type "tuple", dict := dd, data := .seq items n, slots := sl } ∧ s.heap.get? b = some { cls := .type "dict", dict := dd2, data := .dict es n2, slots := sl2 } ∧ R (.ok (.ret .notImplemented)) s) :=
  .of_wp fun prog w A R s h => by obtain ⟨hp, g, d, tk, os⟩ := s; obtain ⟨hl, hb, h⟩ := h; have f1 := F.sub_dict_tuple; wp_walk using wpAny_loadPart' hl, wpAny_loadPart' hb; exact ⟨_, rfl, h⟩
end
section
variable {X : Cx} {pins : List (Addr × Obj)} {σ : L2.St} {H : Hp} {s : Shared}
theorem emp_tuple (I : Inv X pins σ H s) {a p : Addr} {xs : List V} (e : H a = some (.dK [])) (ht : SqT X.K H p xs) (hu : X.A.units < cLine) {Q : Value → Shared → Prop} {E : Value → Shared → Prop} (q : Q (.bool false) s) : wpAny (model X.prog X.w) X.A (richCompare .Eq (.ref a) (.ref p)) Q E s := by
  obtain ⟨_, o, ep, ho, hc, hd⟩ := emp_at I e
  obtain ⟨its, rv, ⟨o2, ho2, hc2, n, hd2⟩, _⟩ := I.tuple ht
  have hne : a ≠ p := fun z => by
    subst z
    rw [ho] at ho2
    cases ho2
    rw [hc] at hc2
    exact absurd hc2 (by intro z; injection z with z; exact absurd z (by decide))
  obtain ⟨cls, dd, data, sl⟩ := o
  obtain ⟨cls2, dd2, data2, sl2⟩ := o2
  simp only at hc hd hc2 hd2
  subst hc hd hc2 hd2
  exact rc_eq_decline_or (k := false) ⟨_, ho, rfl⟩ ⟨_, ho2, rfl⟩ (by decide) F.sub_tuple_dict F.slot_dict_eq F.slot_tuple_eq_refl
    (fun _ hq => dict_declines ⟨_, ho, rfl⟩ ⟨_, ho2, rfl⟩ F.sub_tuple_dict hq)
    (fun _ hq => call_meets F.slot_tuple_eq_refl ⟨_, ho2, rfl⟩ F.entry_tuple_eq (F.args_tuple_eq_2 _ _) (tuple_eq_declines_dict p a _ _ n ep dd2 dd sl2 sl) ⟨ho2, ho, hq⟩)
    (fun _ hq => wpAny_isSame_ref_other hne ho ho2 (by simp) hq) (.inr hu) q
theorem str_emp (I : Inv X pins σ H s) {A : Around} {a : Addr} (e : H a = some (.dK [])) (hu : A.units < cLine) {y : Str} {t : Tok} : PySem.SeqAt.EqAt A s (.str y t) (.ref a) false := by
  obtain ⟨_, o, ep, ho, hc, hd⟩ := emp_at I e
  intro prog w E Q h
  unfold eqBool
  refine wpAny_holding ?_
  refine wpAny_ite_split (fun hab => absurd (eq_of_beq hab) nofun) (fun _ => ?_)
  refine wpAny_bind (rc_eq_decline_or (k := false) (typeIs_str s y t) ⟨_, ho, hc⟩ (by decide) F.sub_dict_str F.slot_str_eq F.slot_dict_eq_refl
    (fun _ hq => str_call_declines ho (fun x u z => by rw [hd] at z; cases z) hq)
    (fun _ hq => dict_declines ⟨_, ho, hc⟩ (typeIs_str s y t) F.sub_str_dict hq)
    (fun _ hq => wpAny_of_eq (rfl : isSame (.str y t) (.ref a) = pure false) hq) (.inr hu) (wpAny_truthy_bool h))
def rEqEmp (K : PySem.W.Frag) : R2 := fun x y H Q => ∃ a p xs, x = .ref a ∧ y = .ref p ∧ H a = some (.dK []) ∧ SqT K H p xs ∧ Q (.bl false) H
theorem op_eqEmp (hu : X.A.units < cLine) : OpR X (compareOp .Eq) (rEqEmp X.K) := by
  intro pins s σ H x y v u Q I rx ry h
  obtain ⟨a, p, xs, rfl, rfl, e, ht, q⟩ := h
  cases (show v = Value.ref a from rx)
  cases (show u = Value.ref p from ry)
  exact emp_tuple I e ht hu ⟨.bl false, H, I, rfl, q⟩
def rNotInEmp (K : PySem.W.Frag) : R2 := fun x y H Q => ∃ a p, ∃ ys : List Str, x = .ref a ∧ y = .ref p ∧ H a = some (.dK []) ∧ SqT K H p (ys.map V.str) ∧ Q (.bl true) H
theorem op_notInEmp (hu : X.A.units + 1 < cLine) : OpR X (compareOp .NotIn) (rNotInEmp X.K) := by
  intro pins s σ H x y v u Q I rx ry h
  obtain ⟨a, p, ys, rfl, rfl, e, ht, q⟩ := h
  cases (show v = Value.ref a from rx)
  cases (show u = Value.ref p from ry)
  obtain ⟨its, rv, tup, _⟩ := I.tuple ht
  have sa := strs_are rv
  have mem : ∀ {us : List Value} {zs : List Str}, StrsAre us zs → ∀ y ∈ us, ∃ z t, y = Value.str z t := by
    intro us zs h
    induction h with
    | nil => intro y hy; cases hy
    | cons z t r ih => intro y hy; rcases List.mem_cons.mp hy with rfl | hy; exact ⟨_, _, rfl⟩; exact ih y hy
  refine SeqAt.notIn_tupleAt (fun _ => false) tup (fun y hy => ?_) ?_
  · obtain ⟨z, t, rfl⟩ := mem sa y (by simpa using hy)
    exact str_emp I e (by show X.A.units + 1 < cLine; exact hu)
  · rw [show (Array.any _ (fun _ => false)) = false by simp]
    exact ⟨.bl true, H, I, rfl, q⟩
theorem op_notInG3 {CX : CXT} {k : Nat} {C : Addr} {sp : Sp} {E : XK} {ys : List Str} (hu : X.A.units + 66 < cLine) (h : HasM X.prog X.w X.K X.mg X.base CX C "__eq__" k ["self", "other"] sp) (sub : PySem.W.subIn X.K (.ref C) (.type "str") = some false) (g : Gd X.A) (hr : Room (k + 1) X.A) (hx : Passes CX X E) :
    OpR X (compareOp .NotIn) (fun x y H Q => (rNotInQ X.K x y H Q ∨ rNotInO C sp E ys X.K x y H Q) ∨ rNotInEmp X.K x y H Q) := op_or (op_notInG hu h sub g hr hx) (op_notInEmp (by omega))
end
end GL
/-! dicts compared with dicts and with other data -/
namespace GL
open PySem PySem.Spec PyProof.Rows L2 PySem.SeqAt
/-- None or a text -/
def thin : V → Bool
  | .non => true
  | .str _ => true
  | _ => false
def hitsB (ls ks : List (Key × V)) : Bool := ks.all fun p => match valV ls p.1 with
  | some z => decide (p.2 = z)
  | none => false
theorem eqAt_thin {A : Around} {s : Shared} {x y : V} {u v : Value} (rx : RelV x u) (ry : RelV y v) (fx : thin x = true) (fy : thin y = true) : SeqAt.EqAt A s u v (decide (x = y)) := by
  cases x with
  | non =>
    cases (show u = Value.none from rx)
    cases y with
    | non => cases (show v = Value.none from ry); rw [decide_eq_true rfl]; exact SeqAt.EqAt.same _
    | str z =>
      obtain ⟨t, rfl⟩ := (show ∃ t, v = Value.str z t from ry)
      rw [decide_eq_false (by intro z; cases z)]
      exact EqAt.none_str z t
    | _ => cases fy
  | str z =>
    obtain ⟨t, rfl⟩ := (show ∃ t, u = Value.str z t from rx)
    cases y with
    | non =>
      cases (show v = Value.none from ry)
      rw [decide_eq_false (by intro z; cases z)]
      exact EqAt.str_none z t
    | str y =>
      obtain ⟨t', rfl⟩ := (show ∃ t, v = Value.str y t from ry)
      have q := SeqAt.EqAt.str_str (A := A) (s := s) z t y t'
      rw [show decide (V.str z = V.str y) = (z == y) by
        by_cases e : z = y
        · subst e; simp
        · rw [decide_eq_false (fun q => e (by injection q))]; simp [e]]
      exact q
    | _ => cases fy
  | _ => cases fx
theorem hits_thin {A : Around} {s : Shared} {ls : List (Key × V)} {vb : List (Key × Value)} (rb : KV ls vb) {ks : List (Key × V)} {va : List (Key × Value)} (ra : KV ks va) :
    (∀ p ∈ ks, thin p.2 = true) → (∀ p ∈ ks, ∀ z, valV ls p.1 = some z → thin z = true) → PySem.W.KeqHits A s vb va (hitsB ls ks) := by
  unfold KV at ra
  induction ra with
  | nil => intro _ _; exact .nil
  | @cons p q ps qs h t ih =>
    intro h1 h2
    obtain ⟨e1, e2⟩ := h
    obtain ⟨k, v⟩ := q
    have e1' : p.1 = k := e1
    have i := ih (fun p' hm => h1 p' (List.mem_cons_of_mem _ hm)) (fun p' hm => h2 p' (List.mem_cons_of_mem _ hm))
    have rv := rb.val p.1
    have eH : hitsB ls (p :: ps) = ((match valV ls p.1 with | some z => decide (p.2 = z) | none => false) && hitsB ls ps) := by
      unfold hitsB
      rw [List.all_cons]
    rw [eH]
    cases hv : valV ls p.1 with
    | none =>
      rw [hv] at rv
      have z := rv.none_of
      rw [e1'] at z
      exact .miss z
    | some z =>
      rw [hv] at rv
      obtain ⟨y, hy, ry⟩ := rv.some_of
      rw [e1'] at hy
      exact .hit hy (eqAt_thin e2 ry (h1 p List.mem_cons_self) (h2 p List.mem_cons_self z hv)) i
section
variable {prog : Program} {w : World} {A : Around} {E : Value → Shared → Prop} {s : Shared} {a b : Addr} {o : Obj}
open PySem.W PySem.Calls Builtin in
theorem int_call_declines {y : Int} {t : Tok} {Q : Value → Shared → Prop} (ho : s.heap.get? b = some o) {es : Array DictEntry} {n2 : Nat} (hd : o.data = .dict es n2) (q : Q .notImplemented s) : wpAny (model prog w) A (call (.builtin "int.__eq__") [.int y t, .ref b]) Q E s := by
  obtain ⟨cls, dd, data, sl⟩ := o
  simp only at hd
  subst hd
  have m : Meets (Builtin.«int.__eq__» ⟨[.int y t, .ref b], []⟩) (fun _ R s => s.heap.get? b = some { cls := cls, dict := dd, data := .dict es n2, slots := sl } ∧ R (.ok (.ret .notImplemented)) s) :=
    .of_wp fun prog w A R s h => by obtain ⟨hp, g, d, tk, os⟩ := s; obtain ⟨hl, h⟩ := h; wp_walk using wpAny_loadPart' hl, wpAny_load hl; exact ⟨_, rfl, h⟩
  exact call_meets F.slot_int_eq (typeIs_int s y t) F.entry_int_eq (F.args_int_eq_2 _ _) m ⟨ho, q⟩
theorem list_eq_declines_dict (l b : Addr) (items : Array Value) (es : Array DictEntry) (n n2 : Nat) (dd dd2 : Option Addr) (sl sl2 : Array (Option Value)) :
    Meets (Builtin.«list.__eq__» ⟨[.ref l, .ref b], []⟩) (fun _ R s => s.heap.get? l = some { cls := .type "list", dict := dd, data := .seq items n, slots := sl } ∧ s.heap.get? b = some { cls := .type "dict", dict := dd2, data := .dict es n2, slots := sl2 } ∧ R (.ok (.ret .notImplemented)) s) :=
  .of_wp fun prog w A R s h => by obtain ⟨hp, g, d, tk, os⟩ := s; obtain ⟨hl, hb, h⟩ := h; have f1 := F.sub_dict_list; wp_walk using wpAny_loadPart' hl, wpAny_loadPart' hb; exact ⟨_, rfl, h⟩
end
section
variable {X : Cx} {pins : List (Addr × Obj)} {σ : L2.St} {H : Hp} {s : Shared}
theorem dK_at (I : Inv X pins σ H s) {a : Addr} {kvs : List (Key × V)} (e : H a = some (.dK kvs)) : ∃ o es ep, s.heap.get? a = some o ∧ o.cls = .type "dict" ∧ o.data = .dict es ep := by
  obtain ⟨_, ya, va, ra, da⟩ := (show ObjOk X.prog X.w H s.heap a (.dK kvs) from I.hok a _ e)
  obtain ⟨o2, ho2, hc2⟩ : ∃ o, s.heap.get? a = some o ∧ o.cls = .type "dict" := da.typeIs (s := s)
  obtain ⟨o, es, ep, ho, hc, hd, _⟩ := da
  have e : o = o2 := Option.some.inj (ho.symm.trans ho2)
  exact ⟨o, es, ep, ho, by rw [e]; exact hc2, hd⟩
/-- d is no dict: other data beside a dict -/
theorem dp_dict (I : Inv X pins σ H s) {x : V} {u : Value} {d : PyData} (h : Dp X.K H x d) (r : RelV x u) {b : Addr} {ls : List (Key × V)} (eb : H b = some (.dK ls)) (hu : X.A.units < cLine) {Q : Value → Shared → Prop} {E : Value → Shared → Prop} (nb : ∀ t, d ≠ .bool t) (q : Q (.bool false) s) : wpAny (model X.prog X.w) X.A (richCompare .Eq u (.ref b)) Q E s := by
  obtain ⟨ob, es, ep, ho, hc, hd⟩ := dK_at I eb
  have td : s.TypeIs (.ref b) "dict" := ⟨_, ho, hc⟩
  have dec : ∀ {T : String} {u : Value}, s.TypeIs u T → isSubtype (.type T) (.type "dict") = pure false → ∀ Q' : Value → Shared → Prop, Q' .notImplemented s → wpAny (model X.prog X.w) X.A (call (.builtin "dict.__eq__") [.ref b, u]) Q' E s := fun tu sub Q' hq => dict_declines td tu sub hq
  cases h with
  | non =>
    cases (show u = Value.none from r)
    exact rc_eq_decline_or (k := false) rfl td (by decide) F.sub_dict_NoneType F.slot_NoneType_eq F.slot_dict_eq_refl
      (fun _ hq => call_gives F.slot_NoneType_eq rfl F.entry_NoneType_eq (F.args_NoneType_eq_2 _ _) (NoneType___eq___none_ref_0 b) hq)
      (fun _ hq => dec (u := .none) (T := "NoneType") rfl F.sub_NoneType_dict _ hq) (fun _ hq => wpAny_of_eq (rfl : isSame .none (.ref b) = pure false) hq) (.inr hu) q
  | bl t => exact absurd rfl (nb t)
  | int i =>
    obtain ⟨t, rfl⟩ := (show ∃ t, u = Value.int i t from r)
    exact rc_eq_decline_or (k := false) (typeIs_int s i t) td (by decide) F.sub_dict_int F.slot_int_eq F.slot_dict_eq_refl
      (fun _ hq => int_call_declines ho hd hq)
      (fun _ hq => dec (typeIs_int s i t) F.sub_int_dict _ hq) (fun _ hq => wpAny_of_eq (rfl : isSame (.int i t) (.ref b) = pure false) hq) (.inr hu) q
  | str y =>
    obtain ⟨t, rfl⟩ := (show ∃ t, u = Value.str y t from r)
    exact rc_eq_decline_or (k := false) (typeIs_str s y t) td (by decide) F.sub_dict_str F.slot_str_eq F.slot_dict_eq_refl
      (fun _ hq => str_call_declines ho (fun x u z => by rw [hd] at z; cases z) hq)
      (fun _ hq => dec (typeIs_str s y t) F.sub_str_dict _ hq) (fun _ hq => wpAny_of_eq (rfl : isSame (.str y t) (.ref b) = pure false) hq) (.inr hu) q
  | @lst p xs ds hs a =>
    obtain rfl : u = Value.ref p := r
    obtain ⟨its, rv, pl, _⟩ := I.list hs
    obtain ⟨o2, ho2, hc2, n, hd2⟩ := pl.isList
    have hne : p ≠ b := fun z => by
      subst z
      rw [ho] at ho2
      cases ho2
      rw [hc] at hc2
      exact absurd hc2 (by intro z; injection z with z; exact absurd z (by decide))
    obtain ⟨cls, dd, data, sl⟩ := ob
    obtain ⟨cls2, dd2, data2, sl2⟩ := o2
    simp only at hc hd hc2 hd2
    subst hc hd hc2 hd2
    exact rc_eq_decline_or (k := false) ⟨_, ho2, rfl⟩ ⟨_, ho, rfl⟩ (by decide) F.sub_dict_list F.slot_list_eq F.slot_dict_eq_refl
      (fun _ hq => call_meets F.slot_list_eq ⟨_, ho2, rfl⟩ F.entry_list_eq (F.args_list_eq_2 _ _) (list_eq_declines_dict p b _ _ n ep dd2 dd sl2 sl) ⟨ho2, ho, hq⟩)
      (fun _ hq => dec (u := .ref p) (T := "list") ⟨_, ho2, rfl⟩ F.sub_list_dict _ hq)
      (fun _ hq => wpAny_isSame_ref_other hne ho2 ho (by simp) hq) (.inr hu) q
  | @tup p xs ds hs a =>
    obtain rfl : u = Value.ref p := r
    obtain ⟨its, rv, ⟨o2, ho2, hc2, n, hd2⟩, _⟩ := I.tuple hs
    have hne : p ≠ b := fun z => by
      subst z
      rw [ho] at ho2
      cases ho2
      rw [hc] at hc2
      exact absurd hc2 (by intro z; injection z with z; exact absurd z (by decide))
    obtain ⟨cls, dd, data, sl⟩ := ob
    obtain ⟨cls2, dd2, data2, sl2⟩ := o2
    simp only at hc hd hc2 hd2
    subst hc hd hc2 hd2
    exact rc_eq_decline_or (k := false) ⟨_, ho2, rfl⟩ ⟨_, ho, rfl⟩ (by decide) F.sub_dict_tuple F.slot_tuple_eq F.slot_dict_eq_refl
      (fun _ hq => call_meets F.slot_tuple_eq ⟨_, ho2, rfl⟩ F.entry_tuple_eq (F.args_tuple_eq_2 _ _) (tuple_eq_declines_dict p b _ _ n ep dd2 dd sl2 sl) ⟨ho2, ho, hq⟩)
      (fun _ hq => dec (u := .ref p) (T := "tuple") ⟨_, ho2, rfl⟩ F.sub_tuple_dict _ hq)
      (fun _ hq => wpAny_isSame_ref_other' hne ho2 ho (by simp) hq) (.inr hu) q
/-- a value beside a dict: a dict of texts or None, or data -/
def DV (K : PySem.W.Frag) (H : Hp) (x : V) (ls : List (Key × V)) (r : Bool) : Prop := (∃ a ks, x = .ref a ∧ H a = some (.dK ks) ∧ (∀ p ∈ ks, thin p.2 = true) ∧ (∀ p ∈ ks, ∀ z, valV ls p.1 = some z → thin z = true) ∧ r = (decide (ks.length = ls.length) && hitsB ls ks)) ∨ ∃ d, Dp K H x d ∧ (∀ t, d ≠ .bool t) ∧ r = false
def rEqDct (K : PySem.W.Frag) : R2 := fun x y H Q => ∃ b ls r, y = .ref b ∧ H b = some (.dK ls) ∧ DV K H x ls r ∧ Q (.bl r) H
theorem op_eqDct (hu : X.A.units < cLine) : OpR X (compareOp .Eq) (rEqDct X.K) := by
  intro pins s σ H x y v u Q I rx ry h
  obtain ⟨b, ls, r, rfl, eb, dv, q⟩ := h
  obtain rfl : u = Value.ref b := ry
  rcases dv with ⟨a, ks, rfl, ea, h1, h2, rfl⟩ | ⟨d, hd, nb, rfl⟩
  · obtain rfl : v = Value.ref a := rx
    obtain ⟨_, ya, va, ra, da⟩ := (show ObjOk X.prog X.w H s.heap a (.dK ks) from I.hok a _ ea)
    obtain ⟨_, yb, vb, rb, db⟩ := (show ObjOk X.prog X.w H s.heap b (.dK ls) from I.hok b _ eb)
    exact PySem.W.keq_eq (knd := mixKind X.prog X.w) (r := hitsB ls ks) ya yb da db hu (fun _ => hits_thin rb ra h1 h2) (fin_bl I q (by rw [ra.length, rb.length]; rfl))
  · exact dp_dict I hd rx eb hu nb (fin_bl I q rfl)
end
end GL
/-! sets of texts: a comprehension, set(list), sorted -/
namespace GL
open PySem PySem.Spec PyProof.Rows L2
def keyT (e : Int × Value) : Str := match e.2 with
  | .str k _ => k
  | _ => Str.empty
def GoodT (w : World) (e : Int × Value) : Prop := ∃ k tk, e.2 = Value.str k tk ∧ e.1 = hashStr w k
/-- the set of texts at a: ks are its members -/
def SetT (w : World) (h : Heap) (a : Addr) (ks : List Str) : Prop :=
  ∃ o es ep tab, h.get? a = some o ∧ o.ExactSet ∧ o.data = .set es ep tab ∧ (∀ e ∈ es.toList, GoodT w e) ∧ ks.Nodup ∧ (es.toList.map keyT).Perm ks ∧ es.size < scanBound ∧ tab.fits es.size = true ∧ Ris tab.place.toList ∧ (w.params.followText "set-order" = true ∨ tab.led = true)
def addS (ks : List Str) (k : Str) : List Str := if k ∈ ks then ks else k :: ks
section
variable {P : Program} {w : World} {h h' : Heap} {a : Addr} {ks : List Str}
theorem SetT.keep (R : SetT w h a ks) (k : ∀ o, h.get? a = some o → h'.get? a = some o) : SetT w h' a ks := let ⟨o, es, ep, tab, ho, r⟩ := R; ⟨o, es, ep, tab, k o ho, r⟩
theorem SetT.has (R : SetT w h a ks) : ∃ o, h.get? a = some o := let ⟨o, _, _, _, ho, _⟩ := R; ⟨o, ho⟩
theorem good_is {e : Int × Value} (g : GoodT w e) (k : Str) : (PySem.strKind P w).is k e.2 = true ↔ keyT e = k := by
  obtain ⟨k0, tk, h1, _⟩ := g
  unfold keyT
  rw [h1]
  show (Value.isStrOf k (.str k0 tk) = true) ↔ k0 = k
  simp [Value.isStrOf]
theorem good_elems {l : List (Int × Value)} (g : ∀ e ∈ l, GoodT w e) : ElemsOf (PySem.strKind P w) l := by
  intro e he
  obtain ⟨k, tk, h1, h2⟩ := g e he
  have z := (good_is (P := P) (g e he) k).mpr (by unfold keyT; rw [h1])
  exact ⟨⟨k, z, h2⟩, by rw [h1]; rfl⟩
theorem good_mem {l : List (Int × Value)} (g : ∀ e ∈ l, GoodT w e) (k : Str) : k ∈ l.map keyT ↔ ∃ e ∈ l, (PySem.strKind P w).is k e.2 = true := by
  simp only [List.mem_map]
  exact ⟨fun ⟨e, he, q⟩ => ⟨e, he, (good_is (g e he) k).mpr q⟩, fun ⟨e, he, q⟩ => ⟨e, he, (good_is (g e he) k).mp q⟩⟩
theorem SetT.setOf (R : SetT w h a ks) : h.SetOf (PySem.strKind P w) a (fun k => decide (k ∈ ks)) ks.length := by
  obtain ⟨o, es, ep, tab, ho, hx, hd, g, nd, pm, hb, hf, _⟩ := R
  refine ⟨o, es, ep, tab, ho, hx, hd, good_elems g, fun k => ?_, hb, hf, ?_⟩
  · rw [decide_eq_true_eq, ← pm.mem_iff]
    exact good_mem g k
  · rw [← pm.length_eq, List.length_map, Array.length_toList]
end
section
variable {P : Program} {w : World} {A : Around} {E : Value → Shared → Prop} {s : Shared} {a : Addr} {ks : List Str}
theorem scan_told {Q : Unit → Shared → Prop} (b : Bool) (q : Q () s) : wpAny (model P w) A (match b with | true => rule "set.scan.the-table-gave-way" | false => pure ()) Q E s := by
  cases b
  · exact wpAny_pure q
  · exact wpAny_rule q
/-- the table is stored, and laid anew where it has become too full -/
theorem setT_store {told : Bool → Sem Unit} (tells : ∀ (b : Bool) (s1 : Shared) (Q1 : Unit → Shared → Prop), Q1 () s1 → wpAny (model P w) A (told b) Q1 E s1)
    {o : Obj} {es new : Array (Int × Value)} {ep : Nat} {tab tab2 : SetTable} (at_ : s.heap.get? a = some o) (exact_ : o.ExactSet) (data_ : o.data = .set es ep tab)
    (good : ∀ e ∈ new.toList, GoodT w e) (nd : ks.Nodup) (perm : (new.toList.map keyT).Perm ks) (few : new.size < scanBound) (fits : tab2.fits new.size = true) (ris : Ris tab2.place.toList) (led : w.params.followText "set-order" = true ∨ tab2.led = true)
    {was : Bool} {R : Option Bool → Shared → Prop} (next : ∀ h', Heap.SameBut a s.heap h' → SetT w h' a ks → R (some true) { s with heap := h' }) :
    wpAny (model P w) A (do
        storeSet a new tab2
        if (!was && tab2.tooFull) = true then do
            told (relayAll tab2 new (SetTable.grown new.size)).2.2
            storeSet a (relayAll tab2 new (SetTable.grown new.size)).1 (relayAll tab2 new (SetTable.grown new.size)).2.1
            pure (some true)
          else pure (some true)) R E s := by
  have at1 := PpSet.storeB_at (es' := new) (t' := tab2) at_ data_
  have but1 := Heap.SameBut.update s.heap a (Obj.putSet new tab2)
  refine wpAny_bind (wpAny_storeSet_of at_ data_ ?_ (fits_of_scanBound few))
  by_cases full : (!was && tab2.tooFull) = true
  · rw [if_pos full]
    have e1 := relayAll_perm tab2 new (SetTable.grown new.size)
    have e2 := relayAll_fits tab2 new (SetTable.grown new.size)
    have e3 := relayAll_ris tab2 new (SetTable.grown new.size)
    have e4 := relayAll_led tab2 new (SetTable.grown new.size)
    revert e1 e2 e3 e4
    generalize relayAll tab2 new (SetTable.grown new.size) = Z
    obtain ⟨laid, tab3, gave⟩ := Z
    intro e1 e2 e3 e4
    replace e1 : laid.toList.Perm new.toList := e1
    have size : laid.size = new.size := by
      have z := e1.length_eq
      simpa using z
    have few2 : laid.size < scanBound := size ▸ few
    refine wpAny_bind (tells _ _ _ ?_)
    refine wpAny_bind (wpAny_storeSet_of at1 rfl ?_ (fits_of_scanBound few2))
    have at2 := PpSet.storeB_at (es' := laid) (t' := tab3) at1 rfl
    refine wpAny_pure (next _ (but1.trans (Heap.SameBut.update _ a _)) ⟨_, laid, _, tab3, at2, exact_, rfl, ?_, nd, (e1.map keyT).trans perm, few2, e2, e3, ?_⟩)
    · exact fun e he => good e (e1.mem_iff.mp he)
    · rcases led with z | z
      · exact .inl z
      · exact .inr (Eq.trans e4 z)
  · rw [if_neg full]
    exact wpAny_pure (next _ but1 ⟨_, new, _, tab2, at1, exact_, rfl, good, nd, perm, few, fits, ris, led⟩)
theorem setT_hashed {k : Str} {tk : Tok} {Q : Bool → Shared → Prop} (R : SetT w s.heap a ks) (room : ks.length + 1 < scanBound)
    (next : ∀ (b : Bool) h', Heap.SameBut a s.heap h' → SetT w h' a (addS ks k) → Q b { s with heap := h' }) : wpAny (model P w) A (setAddHashed a (.str k tk) (hashStr w k)) Q E s := by
  obtain ⟨o, es, ep, tab, ho, hex, hd, g, nd, pm, hb, hf, hr, hl⟩ := R
  have key : (PySem.strKind P w).is k (.str k tk) = true := strKind_is P w k tk
  have scan : (Value.str k tk).scannable = true := rfl
  have elems : ElemsOf (PySem.strKind P w) es.toList := good_elems g
  have size : es.size = ks.length := by rw [← pm.length_eq, List.length_map, Array.length_toList]
  unfold setAddHashed setAddHashedIn
  refine wpAny_holding ?_
  refine wpAny_bind (wpAny_setState_of ho hd hf ?_)
  dsimp only
  rw [byScan_of scan hb elems]
  simp only [↓reduceIte]
  unfold setAddByScan
  refine wpAny_bind (wpAny_bind (wpAny_rule ?_))
  refine wpAny_bind (wpAny_setScan_of key ho hd hf elems ?_)
  cases at_ : List.findIdx? (fun e => (PySem.strKind P w).is k e.2) es.toList with
  | some j =>
    dsimp only
    obtain ⟨hj, pj, _⟩ := List.findIdx?_eq_some_iff_getElem.mp at_
    have here : k ∈ ks := pm.mem_iff.mp ((good_mem (P := P) g k).mpr ⟨_, List.getElem_mem hj, pj⟩)
    refine wpAny_pure (wpAny_pure (next _ s.heap (Heap.SameBut.refl a s.heap) ?_))
    rw [show addS ks k = ks from if_pos here]
    exact ⟨o, es, ep, tab, ho, hex, hd, g, nd, pm, hb, hf, hr, hl⟩
  | none =>
    dsimp only
    have away : k ∉ ks := fun z => by
      obtain ⟨e, he, q⟩ := (good_mem (P := P) g k).mp (pm.mem_iff.mpr z)
      exact absurd (q.symm.trans (List.findIdx?_eq_none_iff.mp at_ e he)) (by decide)
    rw [show addS ks k = k :: ks from if_neg away] at next
    have e1 := layNew_perm tab es (hashStr w k) (.str k tk)
    have e2 := layNew_fits tab es (hashStr w k) (.str k tk)
    have e3 := layNew_ris tab es (hashStr w k) (.str k tk) hr
    have e4 := layNew_led tab es (hashStr w k) (.str k tk)
    change wpAny _ _ (match layNew tab es (hashStr w k) (.str k tk) with | _ => _) _ _ _
    revert e1 e2 e3 e4
    generalize layNew tab es (hashStr w k) (.str k tk) = Z
    obtain ⟨new, tab1, dummy, gave⟩ := Z
    intro e1 e2 e3 e4
    dsimp only at e1 e2 e3 e4 ⊢
    rw [Array.toList_push] at e1
    have cons : new.toList.Perm ((hashStr w k, Value.str k tk) :: es.toList) := e1.trans (List.perm_append_singleton _ _)
    have good1 : ∀ e ∈ new.toList, GoodT w e := fun e he => by
      rcases List.mem_cons.mp (cons.mem_iff.mp he) with z | z
      · exact z ▸ ⟨k, tk, rfl, rfl⟩
      · exact g e z
    have perm1 : (new.toList.map keyT).Perm (k :: ks) := (cons.map keyT).trans (List.Perm.cons _ pm)
    have nd1 : (k :: ks).Nodup := List.nodup_cons.mpr ⟨away, nd⟩
    have size1 : new.size = ks.length + 1 := by
      have z := cons.length_eq
      rw [Array.length_toList, List.length_cons, Array.length_toList, size] at z
      exact z
    have few1 : new.size < scanBound := size1 ▸ room
    have led1 : w.params.followText "set-order" = true ∨ tab1.led = true := hl.imp id (fun z => Eq.trans e4 z)
    refine wpAny_bind (scan_told gave ?_)
    by_cases pl : tab1.plain = true
    · rw [if_pos pl, hashByValue_scannable 8 scan]
      refine wpAny_bind (wpAny_pure ?_)
      refine setT_store ?_ ho hex hd good1 nd1 perm1 few1 ?_ ?_ ?_ (fun h' sb r => ?_)
      · intro b s1 Q1 q
        cases b
        · exact wpAny_pure q
        · exact wpAny_rule q
      · split
        · exact e2
        · exact SetTable.fits_plain_off e2
      · split <;> exact e3
      · split <;> exact led1
      · dsimp only
        exact wpAny_pure (next true h' sb r)
    · rw [if_neg pl]
      refine wpAny_bind (wpAny_pure ?_)
      simp only [↓reduceIte]
      refine setT_store ?_ ho hex hd good1 nd1 perm1 few1 e2 e3 led1 (fun h' sb r => ?_)
      · intro b s1 Q1 q
        cases b
        · exact wpAny_pure q
        · exact wpAny_rule q
      · dsimp only
        exact wpAny_pure (next true h' sb r)
/-- a.add(k) -/
theorem setT_add {k : Str} {tk : Tok} {Q : Value → Shared → Prop} (R : SetT w s.heap a ks) (room : ks.length + 1 < scanBound)
    (next : ∀ h', Heap.SameBut a s.heap h' → SetT w h' a (addS ks k) → Q .none { s with heap := h', toks := s.toks + 1 }) : wpAny (model P w) A (call (.builtin "set.add") [.ref a, .str k tk]) Q E s := by
  have S : s.heap.SetOf (PySem.strKind P w) a (fun k => decide (k ∈ ks)) ks.length := R.setOf
  refine wpAny_call_entry PySem.F.slot_set_add S.typeIs PySem.F.entry_set_add ?_ (PySem.F.args_set_add_2 _ _)
  unfold Builtin.«set.add» Builtin.Frozenset.oneOther Builtin.Frozenset.addrOf setAdd
  simp only [List.isEmpty_nil, bind_assoc]
  refine wpAny_bind (wpAny_pure ?_)
  try dsimp only
  refine wpAny_bind (wpAny_pure ?_)
  try dsimp only
  refine wpAny_bind (wpAny_holding ?_)
  refine wpAny_bind ((PySem.strKind P w).pyHash (k := k) (strKind_is P w k tk) ?_)
  exact setT_hashed (s := { s with toks := s.toks + 1 }) R room fun b h' sb r => wpAny_pure ⟨_, rfl, next h' sb r⟩
/-- a new one -/
theorem setT_new {h : Heap} (w : World) {a : Addr} (e : h.get? a = some { cls := .type "set", dict := none, data := .set #[] 0 (.fresh 0 0 (!w.params.followText "set-order")) }) : SetT w h a [] := by
  refine ⟨_, #[], 0, _, e, ⟨rfl, rfl, rfl⟩, rfl, ?_, List.nodup_nil, List.Perm.refl _, by decide, rfl, List.Pairwise.nil, ?_⟩
  · intro e he
    simp at he
  · cases f : w.params.followText "set-order"
    · exact .inr rfl
    · exact .inl rfl
/-- as a tracked thing -/
def SetTO (w : World) (a : Addr) (ks : List Str) : HO := .ext fun h => SetT w h a ks
theorem setTO_new {P : Program} {w : World} {H : Hp} {h : Heap} {a : Addr} {ks : List Str} (R : SetT w h a ks) : ObjOk P w H h a (SetTO w a ks) := ⟨R, R.has, fun _ _ p k => SetT.keep p k⟩
end
section
variable {X : Cx} {pins : List (Addr × Obj)} {σ : L2.St} {H : Hp} {s : Shared} {D : Addr} {ks : List Str}
theorem setTO_get (I : Inv X pins σ H s) (e : H D = some (SetTO X.w D ks)) : SetT X.w s.heap D ks := (I.hok D _ e).1
theorem addT_ok {E : Value → Shared → Prop} {k : Str} {tk : Tok} {Q : Value → Shared → Prop} (I : Inv X pins σ H s) (hD : H D = some (SetTO X.w D ks)) (room : ks.length + 1 < scanBound)
    (next : ∀ s', Inv X pins σ (upd H D (SetTO X.w D (addS ks k))) s' → Q .none s') : wpAny (model X.prog X.w) X.A (call (.builtin "set.add") [.ref D, .str k tk]) Q E s := by
  refine setT_add (setTO_get I hD) room fun h' sb r => next _ ?_
  exact I.write (e := D) (t' := s.toks + 1) (by rw [hD]; trivial) (.inl rfl) (fun b u nb hu => (sb.2 b nb).trans hu) r.has (setTO_new r)
end
end GL
/-! a set comprehension whose members are texts -/
namespace GL
open PySem PySem.Spec PyProof.Rows L2
section
variable {X : Cx}
/-- one turn: the target is set, the tests are met, the member is put in -/
def turnT (w : World) (g : TG) (tt : TT) (te : TE) (vs : List Nat) (σ : L2.St) (D : Addr) (Nx : Hp → Prop) : V → Hp → Prop := fun x H => g x (wipe σ vs) H fun σ2 H2 => wipe σ2 vs = wipe σ vs ∧ tt σ2 H2 fun b H3 =>
  if b = true then te σ2 H3 fun y H4 => ∃ (k : Str) (ks : List Str), y = .str k ∧ H4 D = some (SetTO w D ks) ∧ ks.length + 1 < scanBound ∧ Nx (upd H4 D (SetTO w D (addS ks k))) else Nx H3
def tScT (w : World) (wi : TI) (g : TG) (tt : TT) (te : TE) (vs : List Nat) : TE := fun σ H Q => wi σ H fun J H1 => ∀ D, H1 D = none → ∃ W : Nat → Nat → Hp → Prop, (∃ m, W 0 m (upd H1 D (SetTO w D []))) ∧
  ∀ i m H, W i m H → (J.stop i H ∧ Q (.ref D) H) ∨ (J.go i H ∧ ∃ Nx : Hp → Prop, (∀ H', Nx H' → ∃ m', m' < m ∧ W (i + 1) m' H') ∧ ∀ x H', J.yld i H x H' → turnT w g tt te vs σ D Nx x H')
theorem pe_scT {elt tg iter : Expr} {ifs : List Expr} {scope : Scope} {own : List (PySem.Str × Nat)} {pos : Pos} {wi : TI} {g : TG} {tt : TT} {te : TE} (nodup : X.N.Nodup) (hi : PI X tg iter wi) (blk : BlkOk X.N X.env.scope scope own)
    (hg : ∀ (s : Shared) (H : Hp) (C : Addr) (cl : List (PySem.Str × Addr)) (fp : List Addr), PG (X.blk s H scope (compEnvC scope cl C X.env) fp) tg g)
    (ht : ∀ (s : Shared) (H : Hp) (C : Addr) (cl : List (PySem.Str × Addr)) (fp : List Addr), PTs (X.blk s H scope (compEnvC scope cl C X.env) fp) ifs tt)
    (he : ∀ (s : Shared) (H : Hp) (C : Addr) (cl : List (PySem.Str × Addr)) (fp : List Addr), PE (X.blk s H scope (compEnvC scope cl C X.env) fp) elt te)
    (calm : X.calm = true := by rfl) (plain : ∀ x, foldedSetIterable iter X.env x = pure x := by intro _; rfl) : PE X (.SetComp elt [⟨tg, iter, ifs, 0⟩] scope pos) (tScT X.w wi g tt te (own.map (·.2))) := by
  refine ⟨fun pins s σ H Q I asked => ?_⟩
  rw [PpSet.eval_SetComp]
  have captured : ∀ y ∈ scope.names, y.2 = .free → ∃ c, X.env.cells.lookup y.1 = some c := by
    intro y hy e
    have two := blk.free y hy e
    exact two.elim (fun k => I.ok.has _ (.inl k)) (fun k => I.ok.has _ (.inr k))
  refine wpAny_comprehension_free (use := none) rfl plain (closure_ok captured) blk.kind (fun y hy e => by rw [blk.uniq y hy, e]) (thn (hi.run pins s σ H _ I asked) fun xv s1 first => thn first fun itv s2 got => ?_)
  obtain ⟨it, fp, tn, J, H2, rfl, I2, turns, stands, apart, q⟩ := got
  refine PpSet.newSet_ok (newEnv_comp ?_)
  generalize whereD : s2.heap.objs.size = D
  have freeD : H2 D = none := I2.hok.fresh (Nat.le_of_eq whereD)
  obtain ⟨W, ⟨m0, w0⟩, each⟩ := q D freeD
  -- the new set
  generalize emptyO : (Obj.mk (.type "set") none (.set #[] 0 (.fresh 0 0 (!X.w.params.followText "set-order"))) #[] : Obj) = oS
  have atD : (s2.heap.push oS).get? D = some oS := by
    rw [← whereD, ← emptyO]
    exact Heap.get?_push_size _ rfl
  have Rnew : SetT X.w (s2.heap.push oS) D [] := setT_new X.w (by rw [atD, ← emptyO])
  have I3 : Inv X pins σ (upd H2 D (SetTO X.w D [])) { s2 with heap := s2.heap.push oS } := I2.laid (t' := s2.toks) (fun b o e => Heap.get?_push_of_some _ e) (Nat.le_of_eq whereD) (setTO_new Rnew)
  have below : ∀ b ∈ fp, b < s2.heap.objs.size := fun b hb => let ⟨o, e, _⟩ := turns.obj _ _ stands b hb; Heap.lt_size e
  have out3 : ∀ b ∈ fp, FpOk X pins (upd H2 D (SetTO X.w D [])) b ∧ b < (s2.heap.push oS).objs.size := by
    intro b hb
    have lt := below b hb
    have ne : b ≠ D := by rw [← whereD]; exact Nat.ne_of_lt lt
    refine ⟨⟨by rw [upd_ne ne]; exact (apart b hb).1, (apart b hb).2⟩, ?_⟩
    rw [Heap.size_push]
    exact Nat.lt_succ_of_lt lt
  have st3 : tn 0 (s2.heap.push oS) := turns.keep _ _ _ stands fun b _ o e => Heap.get?_push_of_some _ e
  generalize whole : ({ s2 with heap := s2.heap.push oS } : Shared) = s3 at I3
  have heap3 : s3.heap = s2.heap.push oS := by rw [← whole]
  rw [← heap3] at out3 st3
  have I4 := block_start I3 blk nodup out3
  generalize laid : upd H2 D (SetTO X.w D []) = H3 at *
  have pg := hg s3 H3 s3.heap.objs.size (cellsFrom (s3.heap.objs.size + 1) scope.names (cloFrom X.env.cells scope.names [])) fp
  have pt := ht s3 H3 s3.heap.objs.size (cellsFrom (s3.heap.objs.size + 1) scope.names (cloFrom X.env.cells scope.names [])) fp
  have pe := he s3 H3 s3.heap.objs.size (cellsFrom (s3.heap.objs.size + 1) scope.names (cloFrom X.env.cells scope.names [])) fp
  show codeAny _ _ (.compStart (.SetComp elt [⟨tg, iter, ifs, 0⟩] scope pos) 0 (.ref it) (.ref D) (compEnvC scope (cellsFrom (s3.heap.objs.size + 1) scope.names (cloFrom X.env.cells scope.names [])) s3.heap.objs.size X.env)) (compPost (model X.prog X.w) X.A X.xe none (EP X pins σ Q) (.ref D) s3.heap.objs.size)
    { s3 with heap := pushCells (s3.heap.push { cls := .type "dict", data := .dict #[] }) scope.names }
  have untracked : ∀ b ∈ fp, H3 b = none := fun b hb => (out3 b hb).1.1
  generalize inner : compEnvC scope (cellsFrom (s3.heap.objs.size + 1) scope.names (cloFrom X.env.cells scope.names [])) s3.heap.objs.size X.env = ce at I4 pg pt pe ⊢
  have frame : ce.locals = s3.heap.objs.size := by rw [← inner]; rfl
  generalize begun : ({ s3 with heap := pushCells (s3.heap.push { cls := .type "dict", data := .dict #[] }) scope.names } : Shared) = s4 at I4 ⊢
  have st4 : tn 0 s4.heap := turns.keep _ _ _ st3 fun b _ o e => by
    rw [← begun]
    exact pushCells_keeps _ _ _ _ (Heap.get?_push_of_some _ e)
  have apart' : ∀ {σ' : L2.St} {H' : Hp} {s' : Shared}, Inv (X.blk s3 H3 scope ce fp) [] σ' H' s' → (∀ b ∈ fp, H' b = none) → ∀ b ∈ fp, FpOk (X.blk s3 H3 scope ce fp) [] H' b := by
    intro σ' H' s' I' un b hb
    have ex := I'.ok.exf b hb
    exact ⟨un b hb, ex.1, I'.ok.exfs b hb, .inl hb, fun x c e => ex.2 x c e, fun p hp => by simp at hp⟩
  have loop : codeAny (model X.prog X.w) X.A (.compLoop (.SetComp elt [⟨tg, iter, ifs, 0⟩] scope pos) 0 (.ref it) (.ref D) ce) (compPost (model X.prog X.w) X.A X.xe none (EP X pins σ Q) (.ref D) s3.heap.objs.size) s4 := by
    refine PpSet.compLoopS_any (fun m s' => ∃ i H', Inv (X.blk s3 H3 scope ce fp) [] (wipe σ (own.map (·.2))) H' s' ∧ tn i s'.heap ∧ (∀ b ∈ fp, H' b = none) ∧ W i m H') ?_ m0 ⟨0, H3, I4, st4, untracked, w0⟩
    rintro m s5 ⟨i, H5, I5, st5, un5, w5⟩
    rcases each i m H5 w5 with ⟨stop, answer⟩ | ⟨go, Nx, less, step⟩
    · have over := turns.done (X.blk s3 H3 scope ce fp) rfl rfl rfl calm i [] s5 _ H5 (fun _ _ => False) I5 (apart' I5 un5) st5 stop
      refine thnF over fun r s6 ⟨hr, I6⟩ => ?_
      subst hr
      have I7 : Inv X pins σ H5 s6 := I3.call' (ch := fp) I6.os I6.base I6.hok I6.bare fun b hb => by
        obtain ⟨⟨_, z1, z2, z3, z4, z5⟩, _⟩ := out3 b hb
        exact ⟨z3, z1, z4, z5⟩
      have own5 : H5 s3.heap.objs.size = none := frame ▸ (show H5 ce.locals = none from I6.free)
      obtain ⟨mm, ns0, _⟩ := I6.loc
      have ns : s6.heap.Ns s3.heap.objs.size mm := frame ▸ (show s6.heap.Ns ce.locals mm from ns0)
      have away := I3.fpOk (Nat.le_refl _) own5
      refine ⟨mm, ns, fun h'' but => ?_⟩
      obtain ⟨f0, f1, f2, f3, f4, f5⟩ := away
      exact ⟨.ref D, H5, I7.turned (t' := s6.toks) (fun b o hb e => (but.2 b hb).trans e) f0 f1 f3 f4 f5, rfl, answer⟩
    · have next := turns.item (X.blk s3 H3 scope ce fp) rfl rfl rfl calm i [] s5 _ H5 (fun _ _ => False) I5 (apart' I5 un5) st5 go
      refine thnF next fun r s6 ⟨u, hr, h6⟩ => ?_
      subst hr
      refine thnF h6 fun _ s7 ⟨x, H7, I7, r7, y7, st7, un7⟩ => ?_
      have fixed := I7.pinned (apart' I7 un7) (turns.obj _ _ st7)
      refine thnF (pg.run _ s7 _ H7 x u _ fixed r7 (step x H7 y7)) fun _ s8 ⟨σ8, H8, I8, same8, q8⟩ => ?_
      refine thnF (pt.run _ s8 σ8 H8 _ I8 q8) fun b s9 ⟨H9, I9, q9⟩ => ?_
      have close : ∀ {s' : Shared} {H' : Hp}, Inv (X.blk s3 H3 scope ce fp) ([] ++ pinsAt fp s7.heap) σ8 H' s' → Nx H' → ∃ m', m' < m ∧ ∃ i H', Inv (X.blk s3 H3 scope ce fp) [] (wipe σ (own.map (·.2))) H' s' ∧ tn i s'.heap ∧ (∀ b ∈ fp, H' b = none) ∧ W i m' H' := by
        intro s' H' I' nx
        obtain ⟨m', lt, w'⟩ := less H' nx
        have pinned : ∀ b ∈ fp, ∀ o, s7.heap.get? b = some o → s'.heap.get? b = some o ∧ H' b = none := fun b hb o e => by
          have z := I'.pin (b, o) (List.mem_append_right _ (List.mem_append_right _ (mem_pinsAt hb e)))
          exact ⟨z.1, z.2.1⟩
        have length : (wipe σ (own.map (·.2))).length = σ8.length := by rw [← same8, wipe_length]
        refine ⟨m', lt, i + 1, H', (I'.unpinned (pins := [])).weak length (fun j v e => (wipe_some (by rw [← same8] at e; exact e)).1), turns.keep _ _ _ st7 fun b hb o e => (pinned b hb o e).1, fun b hb => ?_, w'⟩
        obtain ⟨o, e, _⟩ := turns.obj _ _ st7 b hb
        exact (pinned b hb o e).2
      cases b with
      | false => exact close I9 q9
      | true =>
        refine thnF (pe.run _ s9 σ8 H9 _ I9 q9) fun z s10 ⟨yv, H10, I10, r10, k, ks, ey, atD10, room, nx⟩ => ?_
        subst ey
        obtain ⟨tk, rfl⟩ : ∃ tk, z = Value.str k tk := r10
        exact addT_ok (X := X.blk s3 H3 scope ce fp) I10 atD10 room fun s11 I11 => close I11 nx
  exact PpSet.codeAny_compStart_set loop (turns.self X.A 0 _ _ _ st4 loop)
end
end GL
/-! sorted of a set of texts -/
namespace GL
open PySem PySem.Spec PyProof.Rows L2
theorem strs_of : ∀ (l : List Value), (∀ v ∈ l, ∃ k tk, v = Value.str k tk) → StrsAre l (l.map fun v => keyT (0, v))
  | [], _ => .nil
  | v :: l, h => by
    obtain ⟨k, tk, rfl⟩ := h v (List.mem_cons_self ..)
    exact .cons k tk (strs_of l fun u hu => h u (List.mem_cons_of_mem _ hu))
section
variable {P : Program} {w : World} {A : Around} {E : Value → Shared → Prop} {s : Shared} {a : Addr} {ks : List Str}
theorem setT_sorted {Q : Value → Shared → Prop} (R : SetT w s.heap a ks) (hh : A.handled = none) (few : ks.length < 64)
    (next : ∀ s' p (out : Array Value) (c : Nat) (ys : List Str), (∀ b o, s.heap.get? b = some o → s'.heap.get? b = some o) → s'.gens = s.gens → s'.os = s.os → s.heap.objs.size ≤ p → s'.heap.get? p = some (seqObj "list" out c) → StrsAre out.toList ys → ys.Perm ks → sortedS ys = true → Q (.ref p) s') :
    wpAny (model P w) A (call (.builtin "sorted") [.ref a]) Q E s := by
  obtain ⟨o, es, ep, tab, ho, hex, hd, g, nd, pm, hb, hf, hr, hl⟩ := R
  refine Calls.call_function_entry kind_sorted plain_sorted entry_sorted (args_sorted1 _) ?_
  unfold Builtin.«sorted»
  refine wpAny_bind (m := checkCount "sorted" 1 1 _) (wpAny_pure ?_)
  refine wpAny_bind (collect_set (A := A.in1) hh ⟨o, ho, hex.1, hd⟩ hf hb hr hl fun s1 vs keeps grows gens os perm => ?_)
  have texts : ∀ v ∈ vs, ∃ k tk, v = Value.str k tk := fun v hv => by
    obtain ⟨e, he, q⟩ := List.mem_map.mp (perm.mem_iff.mp hv)
    obtain ⟨k, tk, h1, _⟩ := g e he
    exact ⟨k, tk, q ▸ h1⟩
  have are := strs_of vs texts
  have keys : (vs.map fun v => keyT (0, v)).Perm ks := by
    have z := perm.map fun v => keyT (0, v)
    rw [List.map_map] at z
    exact z.trans pm
  have count : vs.length = ks.length := by rw [← keys.length_eq, List.length_map]
  refine wpAny_bind (wpAny_newList ?_ (by rw [count, sizeLine_eq]; omega))
  have atL : (s1.heap.push (seqObj "list" vs.toArray 0)).get? s1.heap.objs.size = some (seqObj "list" vs.toArray 0) := Heap.get?_push_size _ rfl
  refine wpAny_bind (wpAny_holding (wpAny_call_entry slot_list_sort ⟨_, atL, rfl⟩ entry_list_sort
    (list_sort_treeK strKind_oneLt atL are.keysOf (fun v₁ v₂ rest e => keyKind_strs (by rw [← e]; exact are)) (by rw [count]; exact few) fun st' hp hs => ⟨_, rfl, ?_⟩) (args_list_sort _)))
  obtain ⟨ys, a1, a2, a3⟩ := sorted_out_str are hp hs
  obtain ⟨c, hc⟩ := sortedHeap_at (vs := vs) (out := (arrOf st').map (·.2)) atL
  refine wpAny_pure ⟨_, rfl, next _ s1.heap.objs.size _ c ys (fun b u e => ?_) gens os grows hc a1 (a2.trans keys) a3⟩
  have q := keeps b u e
  have lt := Heap.lt_size q
  show (sortedHeap (s1.heap.push (seqObj "list" vs.toArray 0)) s1.heap.objs.size vs _).get? b = some u
  rw [sortedHeap_old (Nat.ne_of_lt lt) (by rw [size_push']; exact Nat.lt_succ_of_lt lt)]
  exact Heap.get?_push_of_some _ q
end
section
variable {X : Cx}
/-- sorted(a set of texts) -/
def rSortedT (w : World) : List V → Hp → VK → Prop := fun vs H Q => ∃ (a : Addr) (ks : List Str), vs = [V.ref a] ∧ H a = some (SetTO w a ks) ∧ ks.length < 64 ∧ ∀ (ys : List Str) (p : Addr), ys.Perm ks → sortedS ys = true → H p = none → Q (.ref p) (upd H p (.lst (ys.map V.str)))
theorem call_sortedT (calm : X.calm = true := by rfl) : CallR X (.builtin "sorted") (rSortedT X.w) := by
  intro pins s σ H vs us Q I r h
  obtain ⟨a, ks, rfl, ha, few, q⟩ := h
  rw [Vals.ref1 r]
  refine setT_sorted (setTO_get I ha) (I.ok.hd calm) few fun s' p out c ys keeps gens os place at_ are perm srt => ?_
  have len : (ys.map V.str).length ≤ sizeLine := by
    rw [List.length_map, perm.length_eq, sizeLine_eq]
    omega
  have free : H p = none := I.hok.fresh place
  have J : Inv X pins σ (upd H p (.lst (ys.map V.str))) { s with heap := s'.heap, gens := s'.gens, drawn := s'.drawn, toks := s'.toks } :=
    I.call (ch := []) (Un.laid keeps place free) (I.hok.laid keeps place ⟨len, out.toList, c, vals_of_strs are, at_⟩) (by rw [gens]; exact I.bare) (fun _ z => nomatch z)
  have same : s' = { s with heap := s'.heap, gens := s'.gens, drawn := s'.drawn, toks := s'.toks } := by
    obtain ⟨h', g', d', t', o'⟩ := s'
    cases os
    rfl
  rw [same]
  exact ⟨.ref p, _, J, rfl, q ys p perm srt free⟩
end
end GL
/-! set(a list of texts) -/
namespace GL
open PySem PySem.Spec PyProof.Rows L2
def setS (xs : List Str) : List Str := xs.foldl addS []
theorem addS_mem {ks : List Str} {k j : Str} : j ∈ addS ks k ↔ j ∈ ks ∨ j = k := by
  unfold addS
  split
  · rename_i h
    exact ⟨.inl, fun z => z.elim id (fun e => e ▸ h)⟩
  · rw [List.mem_cons]
    exact Or.comm
theorem addS_len {ks : List Str} {k : Str} : (addS ks k).length ≤ ks.length + 1 := by
  unfold addS
  split <;> simp
theorem setS_snoc {xs : List Str} {i : Nat} {x : Str} (h : xs[i]? = some x) : setS (xs.take (i + 1)) = addS (setS (xs.take i)) x := by
  unfold setS
  rw [List.take_succ, h]
  simp
theorem setS_len : ∀ (xs : List Str), (setS xs).length ≤ xs.length := by
  have g : ∀ (xs ks : List Str), (xs.foldl addS ks).length ≤ ks.length + xs.length := by
    intro xs
    induction xs with
    | nil => intro ks; simp
    | cons x r ih =>
      intro ks
      have a := ih (addS ks x)
      have b := addS_len (ks := ks) (k := x)
      simp only [List.foldl_cons, List.length_cons]
      omega
  intro xs
  have z := g xs []
  simpa [setS] using z
theorem setS_mem (xs : List Str) (j : Str) : j ∈ setS xs ↔ j ∈ xs := by
  have g : ∀ (xs ks : List Str), j ∈ xs.foldl addS ks ↔ j ∈ ks ∨ j ∈ xs := by
    intro xs
    induction xs with
    | nil => intro ks; simp
    | cons x r ih =>
      intro ks
      rw [List.foldl_cons, ih, addS_mem, List.mem_cons, or_assoc]
  have z := g xs []
  simpa [setS] using z
section
variable {P : Program} {w : World} {A : Around} {E : Value → Shared → Prop} {s : Shared}
theorem setT_loop {I S : Addr} {fp wr : List Addr} {G : Array GenState → Array GenState → Prop} {n : Nat} {Pv : Nat → Value → Prop} {St : Nat → Shared → Prop} {R : Result → Shared → Prop} (W : WalksS P w A.in1 I fp wr G n Pv St) (notS : S ∉ fp) {xs : List Str} (len : n = xs.length) (few : xs.length + 1 < scanBound)
    (vals : ∀ i v, Pv i v → ∃ k t, xs[i]? = some k ∧ v = .str k t) : ∀ (m i : Nat) (s : Shared), n - i = m → i ≤ n → St i s → SetT w s.heap S (setS (xs.take i)) →
      (∀ s', Moved (S :: wr) G s s' → SetT w s'.heap S (setS xs) → R (.ok (.ret .none)) s') → codeAny (model P w) A (.builtin "set.update.loop" ⟨[.ref S, .ref I], []⟩) R s := by
  have apart : S ∉ wr := fun z => notS (W.sub _ z)
  have wider : ∀ b ∈ wr, b ∈ S :: wr := fun b z => List.mem_cons_of_mem _ z
  intro m
  induction m with
  | zero =>
    intro i s hm le st here next
    obtain rfl : i = n := by omega
    refine codeAny_builtin PyProof.Rows.F.entry_set_update_loop ?_
    rw [Around.under_plainId PyProof.Rows.F.plain_set_update_loop _]
    show wpAny _ A.in1 (pyNext (.ref I) >>= fun _ => _) _ _ s
    refine wpAny_bind (W.done s _ _ st fun s' moved => ?_)
    rw [List.take_of_length_le (by omega)] at here
    show wpAny _ A.in1 (ret .none) _ _ s'
    exact wpAny_pure (next s' (moved.mono wider) (here.keep fun o e => moved.heap S o apart e))
  | succ m ih =>
    intro i s hm le st here next
    have lt : i < n := by omega
    refine codeAny_builtin PyProof.Rows.F.entry_set_update_loop ?_
    rw [Around.under_plainId PyProof.Rows.F.plain_set_update_loop _]
    show wpAny _ A.in1 (pyNext (.ref I) >>= fun _ => _) _ _ s
    refine wpAny_bind (W.item i s _ _ lt st fun v s' pv st' moved => ?_)
    obtain ⟨k, tk, at_, rfl⟩ := vals i v pv
    have here' : SetT w s'.heap S (setS (xs.take i)) := here.keep fun o e => moved.heap S o apart e
    show wpAny _ A.in1 (holding [Value.str k tk] (setAdd S (.str k tk)) >>= fun _ => _) _ _ s'
    unfold setAdd
    refine wpAny_bind (wpAny_holding (wpAny_holding ?_))
    refine wpAny_bind ((PySem.strKind P w).pyHash (k := k) (strKind_is _ _ _ _) ?_)
    have room : (setS (xs.take i)).length + 1 < scanBound := by
      have z := setS_len (xs.take i)
      have y := List.length_take_le i xs
      have y2 : (xs.take i).length ≤ xs.length := by rw [List.length_take]; omega
      omega
    refine setT_hashed (s := { s' with toks := s'.toks + 1 }) here' room fun b h' but there => ?_
    rw [← setS_snoc at_] at there
    refine wpAny_pure ⟨plainId_quiet PyProof.Rows.F.plain_set_update_loop _, ih (i + 1) _ (by omega) lt (W.frame _ s' _ _ st' (Nat.le_succ _) fun b hb o e => ?_) there fun s2 moved2 there2 => ?_⟩
    · have ne : b ≠ S := fun z => notS (by rw [← z]; exact hb)
      exact (but.2 b ne).trans e
    · refine next s2 (Moved.trans W.gtrans ((moved.mono wider).then_heap (Nat.le_succ _) fun b o hb e => ?_) moved2) there2
      have ne : b ≠ S := fun z => hb (by rw [z]; exact List.mem_cons_self ..)
      exact (but.2 b ne).trans e
theorem setT_list {l : Addr} {items : Array Value} {xs : List Str} {Q : Value → Shared → Prop} (calm : A.handled = none) (isl : s.heap.IsList l items) (are : StrsAre items.toList xs) (few : xs.length + 1 < scanBound)
    (next : ∀ (h' : Heap) (tk : Nat), SetT w h' s.heap.objs.size (setS xs) → (∀ b o, s.heap.get? b = some o → h'.get? b = some o) → Q (.ref s.heap.objs.size) { s with heap := h', toks := tk }) : wpAny (model P w) A (call (.type "set") [.ref l]) Q E s := by
  have count : items.size = xs.length := by
    have z := StrsAre.len_eq are
    rw [Array.length_toList] at z
    omega
  generalize fresh : (Obj.mk (.type "set") none (.set #[] 0 (.fresh 0 0 (!w.params.followText "set-order"))) #[] : Obj) = oS
  have sizeS : (s.heap.push oS).objs.size = s.heap.objs.size + 1 := Heap.size_push ..
  obtain ⟨c, tl, mro⟩ := PySem.F.called_set.mro
  have a1 := PySem.F.called_set.made
  have a2 := PySem.F.called_set.sub
  refine wpAny_call (codeAny_of_tree ?_)
  show wpAny _ _ (callAny (.type "set") _) _ _ _
  refine wpAny_pure ⟨Code.quiet_builtin _ (by decide +kernel), codeAny_builtin PySem.F.entry_type_call ?_⟩
  rw [Around.under_plain (weight_type_call_type "set" [.ref l] []) rfl]
  have a3 := PySem.F.called_set.notType
  have a4 := PySem.F.called_set.canCreate
  have a5 := PySem.F.typeCall_set_1 (.ref l)
  repeat (any_goals (first | assumption | wp_step))
  refine codeAny_mono (code_set_led1 (.ref l) (E := E) (Q₁ := fun obj s1 => obj = .ref s.heap.objs.size ∧ s1 = { s with heap := s.heap.push oS }) ⟨rfl, by rw [← fresh]⟩) fun r s1 made => ?_
  cases r with
  | error e => exact made
  | ok fl =>
    cases fl with
    | ret obj =>
      obtain ⟨rfl, rfl⟩ := made
      have atS : (s.heap.push oS).get? s.heap.objs.size = some oS := Heap.get?_push_size _ (by rw [← fresh]; rfl)
      have typeS : Shared.TypeIs { s with heap := s.heap.push oS } (.ref s.heap.objs.size) "set" := ⟨_, atS, by rw [← fresh]⟩
      have b1 := PySem.F.called_set.init.lookup
      have b2 := PySem.F.called_set.init.bind (.ref s.heap.objs.size)
      repeat (any_goals (first | assumption | wp_step))
      refine codeAny_mono (codeAny_call_builtin (R := wants (fun r s2 => r = .none ∧ ∃ h' tk, s2 = { s with heap := h', toks := tk } ∧ SetT w h' s.heap.objs.size (setS xs) ∧ (∀ b o, s.heap.get? b = some o → h'.get? b = some o)) E) PySem.F.called_set.init.plain PySem.F.entry_set_init (check_set_init_1 typeS ?_)) fun r2 s2 done => ?_
      · obtain ⟨⟨ocls, odict, odata, oslots⟩, atl, hcl, nl, hdl⟩ := isl
        simp only at hcl hdl
        subst hcl hdl
        have atl' : (s.heap.push oS).get? l = some { cls := .type "list", dict := odict, data := .seq items nl, slots := oslots } := Heap.get?_push_of_some _ atl
        have c1 := PySem.F.sub_list_set
        have c2 := PySem.F.sub_list_frozenset
        have c3 : (Value.type "list" == Value.type "dict") = false := by decide
        have isl1 : (s.heap.push oS).IsList l items := ⟨_, atl', rfl, nl, rfl⟩
        have ltl : l < s.heap.objs.size := Heap.lt_size atl
        have calm3 : A.in1.in1.in1.handled = none := by simp [calm]
        have neI : l ≠ (s.heap.push oS).objs.size := by rw [sizeS]; exact Nat.ne_of_lt (Nat.lt_succ_of_lt ltl)
        have notS : s.heap.objs.size ∉ [(s.heap.push oS).objs.size, l] := by
          rw [sizeS]
          simp only [List.mem_cons, List.not_mem_nil, or_false, not_or]
          exact ⟨Nat.ne_of_lt (Nat.lt_succ_self _), Nat.ne_of_gt ltl⟩
        subst fresh
        unfold Builtin.«set.__init__» noKeywords Builtin.Frozenset.updateFrom
        generalize keepIter : pyIter = PI
        wp_walk
        subst keepIter
        refine wpAny_pyIter_list isl1 ?_
        refine wpAny_bind (wpAny_runValue ?_)
        have vals : ∀ (i : Nat) (v : Value), items[i]? = some v → ∃ k t, xs[i]? = some k ∧ v = .str k t := fun i v hv => by
          have lt : i < xs.length := by rw [← count]; exact (Array.getElem?_eq_some_iff.mp hv).1
          obtain ⟨t, e⟩ := SS.strs_at are i v (by rw [Array.getElem?_toList]; exact hv)
          exact ⟨xs[i], t, List.getElem?_eq_getElem lt, by rw [e, List.getD_eq_getElem?_getD, List.getElem?_eq_getElem lt]; rfl⟩
        refine setT_loop ((Walks.list calm3 _ l neI items).toS) notS count few vals (items.size - 0) 0 _ (by omega) (Nat.zero_le _) ⟨⟨_, Heap.get?_push_size _ rfl, rfl, rfl⟩, (isl1.push _)⟩ ?_ ?_
        · exact setT_new w (Heap.get?_push_of_some _ atS)
        · intro s' moved there
          obtain ⟨h', g', d', tk', o'⟩ := s'
          obtain rfl : g' = s.gens := moved.gens
          obtain rfl : d' = s.drawn := moved.drawn
          obtain rfl : o' = s.os := moved.os
          show wpAny _ _ _ _ _ _
          refine wpAny_pure ?_
          show wpAny _ _ (ret .none) _ _ _
          refine wpAny_pure ⟨rfl, h', tk', rfl, there, fun b o e => ?_⟩
          have lt := Heap.lt_size e
          refine moved.heap b o ?_ (Heap.get?_push_of_some _ (Heap.get?_push_of_some _ e))
          rw [sizeS]
          simp only [List.mem_cons, List.not_mem_nil, or_false, not_or]
          exact ⟨Nat.ne_of_lt lt, Nat.ne_of_lt (Nat.lt_succ_of_lt lt)⟩
      · cases r2 with
        | error e => exact done
        | ok fl2 =>
          cases fl2 with
          | ret r =>
            obtain ⟨rfl, h', tk, rfl, there, keeps⟩ := done
            repeat (any_goals (first | assumption | wp_step))
            exact next _ _ there keeps
          | _ => exact done.elim
    | _ => exact made.elim
end
section
variable {X : Cx}
/-- set(a list of texts) -/
def rSetT (K : PySem.W.Frag) (w : World) : List V → Hp → VK → Prop := fun vs H Q => ∃ (l : Addr) (xs : List Str), vs = [V.ref l] ∧ SqL K H l (xs.map V.str) ∧ xs.length + 1 < scanBound ∧ ∀ p, H p = none → Q (.ref p) (upd H p (SetTO w p (setS xs)))
theorem call_setT (calm : X.calm = true := by rfl) : CallR X (.type "set") (rSetT X.K X.w) := by
  intro pins s σ H vs us Q I r h
  obtain ⟨l, xs, rfl, hl, few, q⟩ := h
  obtain ⟨its, rv, isl, _⟩ := I.list hl
  rw [Vals.ref1 r]
  refine setT_list (I.ok.hd calm) isl.isList rv.strs few fun h' tk there keeps => ?_
  have free : H s.heap.objs.size = none := I.hok.fresh (Nat.le_refl _)
  exact ⟨.ref _, _, I.laid (t' := tk) keeps (Nat.le_refl _) (setTO_new there), rfl, q _ free⟩
end
end GL
/-! an own `in`; calls by keywords; a set comprehension over a tuple -/
namespace GL
open PySem PySem.Spec PyProof.Rows L2
section
variable {X : Cx} {CX : CXT} {k : Nat} {C : Addr} {sp : Sp} {E : XK}
def rInA (C : Addr) (sp : Sp) (E : XK) : R2 := fun x y H Q => ∃ a dx fs, y = .ref a ∧ H a = some (.ins C dx fs) ∧ sp [.ref a, x] H (fun v H' => ∃ b, v = .bl b ∧ Q (.bl b) H') E
theorem op_inA (h : HasM X.prog X.w X.K X.mg X.base CX C "__contains__" k ["self", "value"] sp) (g : Gd X.A) (hr : Room k X.A) (hx : Passes CX X E) : OpR X (compareOp .In) (rInA C sp E) := by
  intro pins s σ H x y v u Q I rx ry hq
  obtain ⟨a, dx, fs, rfl, ha, q⟩ := hq
  cases (show u = Value.ref a from ry)
  obtain ⟨f, fd, F, M, bi⟩ := h.ex
  obtain ⟨_, O1, _⟩ := ins_get I.hok ha
  obtain ⟨od, J, _⟩ := O1.look
  obtain ⟨m', fr⟩ := I.fr
  have b1 := bi s [.ref a, v] I.kIn rfl
  rw [List.append_nil] at b1
  refine PySem.W.in_K fr I.mod.kin J M.at_ M.fn ?_
  apply wpAny_call
  refine codeAny_mono (F.go g hr I.env0 b1 (vs := [.ref a, x]) (.cons rfl (.cons rx .nil)) q) (fun res s' z => ?_)
  match res, z with
  | .error _, z => exact hx pins σ H s _ s' I z
  | .ok (.ret _), z =>
    obtain ⟨v', H', I', rv, b, rfl, q2⟩ := I.after z
    cases (show _ = Value.bool b from rv)
    exact wpAny_truthy_bool ⟨.bl b, H', I', rfl, q2⟩
end
/-! ### keywords -/
structure HasK (P : Program) (w : World) (K : PySem.W.Frag) (mg : Str → Option Value) (base : Heap) (CX : CXT) (x : Str) (k : Nat) (ps : List Str) (n : Nat) (ks : List Str) (sp : Sp) : Prop where
  ex : ∃ f fd, FnG P w K mg base CX k f fd ps sp ∧ mg x = some (.ref f) ∧ PySem.W.keepIn K (.ref f) = true ∧ KBn K fd ps n ks (fun us ws => us ++ ws) (fun vs zs => vs ++ zs)
section
variable {X : Cx} {CX : CXT} {k n : Nat} {ps ks : List Str} {sp : Sp} {E : XK} {x : Str} {p pos : Pos} {e : Expr} {es : List Expr} {kws : List Keyword} {t tk : TA}
theorem pe_callKH (h : HasK X.prog X.w X.K X.mg X.base CX x k ps n ks sp) (g : Gd X.A) (hr : Room k X.A) (hx : Passes CX X E) (ha : PA X (e :: es) t) (hkw : PK X kws tk) (hg : Gl X x := by exact rfl)
    (hall : (backToKw pos (keywordEach kws X.env)).all (·.1.isSome) = true := by rfl) (hks : (backToKw pos (keywordEach kws X.env)).filterMap (·.1) = ks := by rfl) (hdb : (x == ("__debug__" : Str)) = false := by decide)
    (he : starEach (e :: es) X.env = (false, eval e X.env) :: starEach es X.env := by rfl) (hpl : ((backTo pos (starEach (e :: es) X.env)).any (·.1) || (backToKw pos (keywordEach kws X.env)).any (·.1.isNone)) = false := by rfl) :
    PE X (.Call (.Name x p) (e :: es) kws pos) (tCallN n ks.length sp (fun vs zs => vs ++ zs) E t tk) := by
  obtain ⟨f, fd, F, m, kp, b⟩ := h.ex
  refine ⟨fun pins s σ H Q I q => ?_⟩
  refine wpAny_Call_Name_kw (ld_glob I hg m ?_ hdb)
  refine PySem.W.callWith_KW (h₀ := X.base) I.ok.mod.kin kp hall (thn (ha.run pos pins s σ H _ I q) fun us s1 ⟨vs, H1, I1, r, q1⟩ => ?_) hpl he
  refine thn (hkw.run pos pins s1 σ H1 _ I1 q1) fun ws s2 ⟨zs, H2, I2, rz, l1, l2, q2⟩ => ⟨I2.kIn, ?_⟩
  rw [hks]
  have both := b.rel r rz
  have bound := b.to s2 us ws I2.kIn (r.length.symm.trans l1) (rz.length.symm.trans l2)
  refine wpAny_call (codeAny_mono (F.go g hr I2.env0 bound both q2) fun res s' z => ?_)
  match res, z with
  | .error _, z => exact hx pins σ H2 s2 _ s' I2 z
  | .ok (.ret _), z => exact I2.after z
end
/-- a def with a parameter that is passed by its name, without a default -/
theorem Df.hasK {P : Program} {w : World} {K : PySem.W.Frag} {mg : Str → Option Value} {base : Heap} {x : Str} {st : Stmt} {N ps : List Str} {k n : Nat} {ks : List Str} {sp : Sp} (D : Df K mg x st) (S : FnScope N ps (defScope st)) (len : ∀ vs H Q E, sp vs H Q E → vs.length = ps.length)
    (bi : ∀ (kV doc pm : Value) (an : Option Addr) (cdv ct : Value) (us ws : List Value), us.length = n → ws.length = ks.length → bindArgs (PySem.W.fnOf x x (defArgs st) (defBody st) (defScope st) .none kV doc pm an cdv ct) ⟨us, ks.zip ws⟩ = pure (ps.zip (us ++ ws)))
    (body : ∀ (f : Addr) (cdv : Value) (A : Around) (outer : List Env) (s : Shared) (H : Hp) (vs : List V) (Q : VK) (E : XK), Gd (A.deeper (envOfC x (defScope st) s.heap.objs.size f cdv)) → Room k (A.deeper (envOfC x (defScope st) s.heap.objs.size f cdv)) → sp vs H Q E →
      ∃ t, PSs (cxOf CX0 P w K mg base N x (defScope st) f cdv A outer s H E).nox (defBody st) t ∧ t { nx := fun _ H' => Q .non H', rt := Q } (start N vs) H) : HasK P w K mg base CX0 x (k + 1) ps n ks sp := by
  obtain ⟨f, fd, F, m⟩ := D.ex
  obtain ⟨oc, od, kV, doc, pm, an, cdv, ct, osl, eF, at_, cR⟩ := id F.ex
  exact ⟨f, fd, F.g S len (body f), m, F.kp, ⟨fun s us ws _ l1 l2 => by subst eF; exact .of_eq (bi kV doc pm an cdv ct us ws l1 l2), fun r1 r2 => r1.append r2⟩⟩
/-! ### a set comprehension over a tuple or a list -/
theorem scT_tup {w : World} {K : PySem.W.Frag} {a : Addr} {xs : List V} {g : TG} {tt : TT} {te : TE} {vs : List Nat} {σ : L2.St} {H1 : Hp} {D : Addr} {Qd : Hp → Prop} (Pv : Nat → Hp → Prop) (p0 : Pv 0 (upd H1 D (SetTO w D []))) (still : ∀ i H, i ≤ xs.length → Pv i H → SqT K H a xs)
    (each : ∀ i x H, xs[i]? = some x → Pv i H → turnT w g tt te vs σ D (Pv (i + 1)) x H) (done : ∀ H, Pv xs.length H → Qd H) :
    ∃ W : Nat → Nat → Hp → Prop, (∃ m, W 0 m (upd H1 D (SetTO w D []))) ∧ ∀ i m H, W i m H →
      ((Itt K a).stop i H ∧ Qd H) ∨ ((Itt K a).go i H ∧ ∃ Nx : Hp → Prop, (∀ H', Nx H' → ∃ m', m' < m ∧ W (i + 1) m' H') ∧ ∀ x H', (Itt K a).yld i H x H' → turnT w g tt te vs σ D Nx x H') := by
  refine ⟨fun i m H => m = xs.length - i ∧ i ≤ xs.length ∧ Pv i H, ⟨xs.length, (Nat.sub_zero _).symm, Nat.zero_le _, p0⟩, fun i m H ⟨em, le, p⟩ => ?_⟩
  have sq := still i H le p
  rcases Nat.lt_or_eq_of_le le with lt | e
  · refine .inr ⟨⟨xs, xs[i], sq, by simp [lt]⟩, Pv (i + 1), fun H' p' => ⟨xs.length - (i + 1), by omega, rfl, lt, p'⟩, fun x H' ⟨eH, y⟩ => ?_⟩
    subst eH
    exact each i x _ (y xs sq) p
  · subst e
    exact .inl ⟨⟨xs, sq, Nat.le_refl _⟩, done H p⟩
end GL
/-! data, read from its description -/
namespace GL
open PySem PySem.Spec PyProof.Rows L2
def kdD : PyData → Kd
  | .none => .non
  | .bool _ => .bl
  | .int _ => .int
  | .str _ => .str
  | .list _ => .lst
  | .tuple _ => .tup
  | .dict _ => .dct
section
variable {K : PySem.W.Frag} {H H' : Hp} {x : V} {d : PyData}
theorem lst_of {a : Addr} {xs : List V} (h : SqL K H a xs) : Of K H (.ref a) .lst := by
  rcases h with (z | ⟨o, z⟩) | ⟨o, its, n, e, c, _⟩
  · exact .base (.lst z)
  · exact .base (.frz z)
  · exact .kList e c
theorem tup_of {a : Addr} {xs : List V} (h : SqT K H a xs) : Of K H (.ref a) .tup := by
  rcases h with (z | ⟨o, z⟩) | ⟨o, its, n, e, c, _⟩
  · exact .base (.tup z)
  · exact .fTuple z
  · exact .kTuple e c
theorem dOf (h : Dp K H x d) : Of K H x (kdD d) := by
  cases h with
  | non => exact .non
  | bl b => exact .bl
  | int i => exact .int
  | str y => exact .str
  | lst h a => exact lst_of h
  | tup h a => exact tup_of h
theorem dStr {y : Str} (h : Dp K H x (.str y)) : x = .str y := by cases h; rfl
theorem dInt {i : Int} (h : Dp K H x (.int i)) : x = .int i := by cases h; rfl
theorem dTup {ds : List PyData} (h : Dp K H x (.tuple ds)) : ∃ a xs, x = .ref a ∧ SqT K H a xs ∧ DpAll K H xs ds := by
  cases h with
  | tup h a => exact ⟨_, _, rfl, h, a⟩
theorem dLst {ds : List PyData} (h : Dp K H x (.list ds)) : ∃ a xs, x = .ref a ∧ SqL K H a xs ∧ DpAll K H xs ds := by
  cases h with
  | lst h a => exact ⟨_, _, rfl, h, a⟩
theorem dLen : ∀ {xs : List V} {ds : List PyData}, DpAll K H xs ds → xs.length = ds.length
  | _, _, .nil => rfl
  | _, _, .cons _ a => by simp [dLen a]
theorem dAt : ∀ {xs : List V} {ds : List PyData}, DpAll K H xs ds → ∀ {i : Nat} {x : V}, xs[i]? = some x → ∃ d, ds[i]? = some d ∧ Dp K H x d
  | _, _, .nil, i, x, h => by simp at h
  | _, _, .cons z a, 0, x, h => by simp at h; exact ⟨_, rfl, h ▸ z⟩
  | _, _, .cons z a, i + 1, x, h => by
    simp only [List.getElem?_cons_succ] at h ⊢
    exact dAt a h
theorem dAt' : ∀ {xs : List V} {ds : List PyData}, DpAll K H xs ds → ∀ {i : Nat} {d : PyData}, ds[i]? = some d → ∃ x, xs[i]? = some x ∧ Dp K H x d
  | _, _, .nil, i, x, h => by simp at h
  | _, _, .cons z a, 0, x, h => by simp at h; exact ⟨_, rfl, h ▸ z⟩
  | _, _, .cons z a, i + 1, x, h => by
    simp only [List.getElem?_cons_succ] at h ⊢
    exact dAt' a h
theorem dSnoc : ∀ {xs : List V} {ds : List PyData}, DpAll K H xs ds → Dp K H x d → DpAll K H (xs ++ [x]) (ds ++ [d])
  | _, _, .nil, h => .cons h .nil
  | _, _, .cons z a, h => .cons z (dSnoc a h)
theorem dApp {ys : List V} {es : List PyData} : ∀ {xs : List V} {ds : List PyData}, DpAll K H xs ds → DpAll K H ys es → DpAll K H (xs ++ ys) (ds ++ es)
  | _, _, .nil, h => h
  | _, _, .cons z a, h => .cons z (dApp a h)
theorem dTake : ∀ {xs : List V} {ds : List PyData} (n : Nat), DpAll K H xs ds → DpAll K H (xs.take n) (ds.take n)
  | _, _, 0, _ => by simp; exact .nil
  | _, _, n + 1, .nil => .nil
  | _, _, n + 1, .cons z a => .cons z (dTake n a)
theorem dDrop : ∀ {xs : List V} {ds : List PyData} (n : Nat), DpAll K H xs ds → DpAll K H (xs.drop n) (ds.drop n)
  | _, _, 0, h => h
  | _, _, n + 1, .nil => .nil
  | _, _, n + 1, .cons z a => dDrop n a
theorem dRev : ∀ {xs : List V} {ds : List PyData}, DpAll K H xs ds → DpAll K H xs.reverse ds.reverse
  | _, _, .nil => .nil
  | _, _, .cons z a => by
    rw [List.reverse_cons, List.reverse_cons]
    exact dSnoc (dRev a) z
theorem dStrs {ys : List Str} {H : Hp} : DpAll K H (ys.map V.str) (ys.map PyData.str) := by
  induction ys with
  | nil => exact .nil
  | cons y r ih => exact .cons (.str y) ih
theorem dStrs' : ∀ {ys : List Str} {xs : List V}, DpAll K H xs (ys.map PyData.str) → xs = ys.map V.str
  | [], _, .nil => rfl
  | y :: r, _, .cons z a => by
    rw [dStr z, dStrs' a]
    rfl
theorem dInts' : ∀ {ns : List Int} {xs : List V}, DpAll K H xs (ns.map PyData.int) → xs = ns.map V.int
  | [], _, .nil => rfl
  | y :: r, _, .cons z a => by
    rw [dInt z, dInts' a]
    rfl
theorem dRef {a : Addr} (h : Dp K H (.ref a) d) : (∃ xs ds, d = .tuple ds ∧ SqT K H a xs ∧ DpAll K H xs ds) ∨ (∃ xs ds, d = .list ds ∧ SqL K H a xs ∧ DpAll K H xs ds) := by
  cases h with
  | lst h a => exact .inr ⟨_, _, rfl, h, a⟩
  | tup h a => exact .inl ⟨_, _, rfl, h, a⟩
end
theorem atI_m1 {α : Type} {xs : List α} {i : Nat} {v : α} (l : xs.length = i + 1) (h : xs[i]? = some v) : atI xs (-1) = some v := by
  unfold atI ixN
  rw [if_neg (by decide), if_pos (by omega)]
  show xs[((-1 : Int) + (xs.length : Int)).toNat]? = some v
  rw [show ((-1 : Int) + (xs.length : Int)).toNat = i by omega]
  exact h
/-- a pair as a target in a block of its own -/
theorem pg_tupK {X : Cx} {K0 : PySem.W.Frag} {es : List Expr} {k n : Nat} {t : TGs} {pos : Pos} (hK : X.K = K0) (hc : X.calm = true) (h : PGs X es t) (hn : (assignEach es X.env).length = n := by rfl) (hst : (assignEach es X.env).findIdx? (·.1) = none := by rfl) : PG X (.Tuple es k pos) (gTup K0 n t) := by
  subst hK
  exact pg_tup hc h hn hst
theorem cut_init {xs : List V} {n : Nat} (l : xs.length = n + 1) : cutV xs none (some (-1)) = xs.take n := by
  have e : HT.sIx xs.length xs.length (some (-1)) = n := by
    show (if (-1 : Int) < 0 then ((-1 : Int) + (xs.length : Int)).toNat else min (-1 : Int).toNat xs.length) = n
    rw [if_pos (by decide)]
    omega
  unfold cutV
  rw [e, HT.sIx_none, List.drop_zero, Nat.sub_zero]
/-! ### a list that grows by data -/
/-- the heap without D -/
def wo (D : Addr) (H : Hp) : Hp := fun b => if b = D then none else H b
section
variable {K : PySem.W.Frag} {H H0 H1 H2 : Hp} {D b : Addr} {o : HO} {ds : List PyData} {d : PyData} {x : V}
theorem wo_at (e : H b = some o) (n : b ≠ D) : wo D H b = some o := (if_neg n).trans e
theorem wo_D : wo D H D = none := if_pos rfl
theorem wo_same : Same (wo D H) H := fun b o e => by
  by_cases h : b = D
  · rw [h, wo_D] at e; cases e
  · exact (if_neg h).symm.trans e
theorem wo_of (n : H0 D = none) (s : Same H0 H) : Same H0 (wo D H) := fun b o e => wo_at (s b o e) (fun z => by rw [z, n] at e; cases e)
theorem wo_mono (s : Same H H1) : Same (wo D H) (wo D H1) := wo_of wo_D (fun b o e => s b o (wo_same b o e))
theorem wo_upd : wo D (upd H D o) = wo D H := by
  funext b
  unfold wo
  by_cases h : b = D
  · rw [if_pos h, if_pos h]
  · rw [if_neg h, if_neg h, upd_ne h]
/-- data does not hang on an instance -/
theorem sqT_wo {C dx a : Addr} {fs : List (Str × V)} {xs : List V} (e : H D = some (.ins C dx fs)) (h : SqT K H a xs) : SqT K (wo D H) a xs := by
  rcases h with (z | ⟨o, z⟩) | z
  · exact .inl (.inl (wo_at z (fun q => by rw [q, e] at z; cases z)))
  · exact .inl (.inr ⟨o, wo_at z (fun q => by rw [q, e] at z; cases z)⟩)
  · exact .inr z
theorem sqL_wo {C dx a : Addr} {fs : List (Str × V)} {xs : List V} (e : H D = some (.ins C dx fs)) (h : SqL K H a xs) : SqL K (wo D H) a xs := by
  rcases h with (z | ⟨o, z⟩) | z
  · exact .inl (.inl (wo_at z (fun q => by rw [q, e] at z; cases z)))
  · exact .inl (.inr ⟨o, wo_at z (fun q => by rw [q, e] at z; cases z)⟩)
  · exact .inr z
mutual
theorem dp_wo {C dx : Addr} {fs : List (Str × V)} (e : H D = some (.ins C dx fs)) : ∀ {x : V} {d : PyData}, Dp K H x d → Dp K (wo D H) x d
  | _, _, .non => .non
  | _, _, .bl b => .bl b
  | _, _, .int i => .int i
  | _, _, .str y => .str y
  | _, _, .lst h a => .lst (sqL_wo e h) (dps_wo e a)
  | _, _, .tup h a => .tup (sqT_wo e h) (dps_wo e a)
theorem dps_wo {C dx : Addr} {fs : List (Str × V)} (e : H D = some (.ins C dx fs)) : ∀ {xs : List V} {ds : List PyData}, DpAll K H xs ds → DpAll K (wo D H) xs ds
  | _, _, .nil => .nil
  | _, _, .cons h a => .cons (dp_wo e h) (dps_wo e a)
end
theorem wo_under : Same (wo D H) (upd H D o) := by
  have z := wo_same (H := upd H D o) (D := D)
  rw [wo_upd] at z
  exact z
structure Grow (K : PySem.W.Frag) (H0 : Hp) (D : Addr) (ds : List PyData) (H : Hp) : Prop where
  free : H0 D = none
  same : Same H0 H
  ex : ∃ xs, H D = some (.lst xs) ∧ DpAll K (wo D H) xs ds
theorem Grow.start (n : H D = none) : Grow K H D [] (upd H D (.lst [])) := ⟨n, Same.new n, [], upd_same, .nil⟩
theorem Grow.from {xs : List V} (n : H D = none) (l : DpAll K H xs ds) : Grow K H D ds (upd H D (.lst xs)) := ⟨n, Same.new n, xs, upd_same, by rw [wo_upd]; exact dps_same (wo_of n same_rf) l⟩
where same_rf {H : Hp} : Same H H := fun _ _ e => e
theorem Grow.ext (A : Grow K H0 D ds H) (s : Same H H1) : Grow K H0 D ds H1 := ⟨A.free, A.same.trans s, let ⟨xs, e, l⟩ := A.ex; ⟨xs, s _ _ e, dps_same (wo_mono s) l⟩⟩
theorem Grow.base (A : Grow K H0 D ds H) (h : Dp K H0 x d) : Dp K (wo D H) x d := dp_same (wo_of A.free A.same) h
theorem Grow.at_ {xs : List V} (A : Grow K H0 D ds H) (e : H D = some (.lst xs)) : DpAll K (wo D H) xs ds := by
  obtain ⟨ys, e', l⟩ := A.ex
  rw [e] at e'
  cases e'
  exact l
theorem Grow.push {xs : List V} (A : Grow K H0 D ds H) (e : H D = some (.lst xs)) (h : Dp K (wo D H) x d) : Grow K H0 D (ds ++ [d]) (upd H D (.lst (xs ++ [x]))) := by
  refine ⟨A.free, fun b o z => ?_, xs ++ [x], upd_same, ?_⟩
  · rw [upd_ne (fun q => by rw [q, A.free] at z; cases z)]
    exact A.same b o z
  · rw [wo_upd]
    exact dSnoc (A.at_ e) h
theorem Grow.dp (A : Grow K H0 D ds H) : Dp K H (.ref D) (.list ds) := let ⟨_, e, l⟩ := A.ex; .lst (SqL.of e) (dps_same wo_same l)
theorem Grow.len {xs : List V} (A : Grow K H0 D ds H) (e : H D = some (.lst xs)) : xs.length = ds.length := dLen (A.at_ e)
/-- a new object beside the list -/
theorem Grow.new {p : Addr} {u : HO} (A : Grow K H0 D ds H) (n : H p = none) : Grow K H0 D ds (upd H p u) ∧ wo D (upd H p u) p = some u := ⟨A.ext (Same.new n), wo_at upd_same (fun z => by obtain ⟨xs, e, _⟩ := A.ex; rw [z, e] at n; cases n)⟩
end
/-! ### rows -/
abbrev RowT := List (Str × Int)
def itemD (x : Str × Int) : PyData := .tuple [.str x.1, .int x.2]
def rowD (r : RowT) : PyData := .tuple (r.map itemD)
def LetS (y : Str) : Bool := decide (y.length = 1) && y.cps.toList.all fun c => decide (97 ≤ c) && decide (c ≤ 122)
def isLetD : PyData → Bool
  | .str y => LetS y
  | _ => false
def isTurnD (t : Bool) : PyData → Bool
  | .int i => isCountV (.int i) && decide (i < (num t : Int))
  | _ => false
def isItemD (t : Bool) : PyData → Bool
  | .tuple [a, b] => isLetD a && isTurnD t b
  | _ => false
structure ItemOk (t : Bool) (x : Str × Int) : Prop where
  l : LetS x.1 = true
  a : 0 ≤ x.2
  b : x.2 < (num t : Int)
structure RowOk (t : Bool) (r : RowT) : Prop where
  two : 2 ≤ r.length
  most : r.length ≤ 12
  all : ∀ x ∈ r, ItemOk t x
section
variable {K : PySem.W.Frag} {H : Hp} {x : V} {t : Bool}
theorem dItem {it : Str × Int} (h : Dp K H x (itemD it)) : ∃ q, x = .ref q ∧ SqT K H q [.str it.1, .int it.2] := by
  obtain ⟨a, xs, rfl, hs, l⟩ := dTup h
  cases l with
  | cons l1 l2 => cases l1; cases l2 with
    | cons l3 l4 => cases l3; cases l4; exact ⟨a, rfl, hs⟩
theorem itemDp {q : Addr} {it : Str × Int} (h : SqT K H q [.str it.1, .int it.2]) : Dp K H (.ref q) (itemD it) := .tup h (.cons (.str _) (.cons (.int _) .nil))
/-- the i-th item of a row -/
theorem rowAt {r : RowT} {xs : List V} (l : DpAll K H xs (r.map itemD)) {i : Nat} {x : V} (h : xs[i]? = some x) : ∃ it q, r[i]? = some it ∧ x = .ref q ∧ SqT K H q [.str it.1, .int it.2] := by
  obtain ⟨d, hd, z⟩ := dAt l h
  rw [List.getElem?_map] at hd
  cases e : r[i]? with
  | none => rw [e] at hd; cases hd
  | some it =>
    rw [e] at hd
    cases hd
    obtain ⟨q, rfl, hq⟩ := dItem z
    exact ⟨it, q, rfl, rfl, hq⟩
theorem rowLen {r : RowT} {xs : List V} (l : DpAll K H xs (r.map itemD)) : xs.length = r.length := by rw [dLen l, List.length_map]
theorem turn_ok {i : Int} (a : 0 ≤ i) (b : i < (num t : Int)) : isTurnD t (.int i) = true := by
  have n : (num t : Int) ≤ 6 := by cases t <;> decide
  have s : isIntV (.int i) = true := short_of (by omega)
  show ((isIntV (.int i) && decide (0 ≤ i)) && decide (i < (num t : Int))) = true
  rw [s, decide_eq_true a, decide_eq_true b]
  rfl
theorem item_ok {it : Str × Int} (h : ItemOk t it) : isItemD t (itemD it) = true := by
  show (LetS it.1 && isTurnD t (.int it.2)) = true
  rw [h.l, turn_ok h.a h.b]
  rfl
end
/-! ### a list made of a row -/
theorem lc_row {K : PySem.W.Frag} {a : Addr} {xs : List V} {r : RowT} {te : TE} {vs : List Nat} {σ : L2.St} {H1 : Hp} {D : Addr} {Qd : Hp → Prop} {i j : Nat} (F : Str × Int → PyData) (hs : SqT K H1 a xs) (l : DpAll K H1 xs (r.map itemD)) (few : r.length ≤ 1000) (hD : H1 D = none) (hw : ∀ u v, wipe (((wipe σ vs).set i u).set j v) vs = wipe σ vs)
    (each : ∀ (n : Nat) (it : Str × Int) (H' : Hp), r[n]? = some it → Same H1 H' → H' D ≠ none → ∀ Q : VK, (∀ y H'', Same H' H'' → Dp K (wo D H'') y (F it) → Q y H'') → te (((wipe σ vs).set i (some (.str it.1))).set j (some (.int it.2))) H' Q)
    (done : ∀ H', Same H1 H' → Dp K H' (.ref D) (.list (r.map F)) → Qd H') :
    ∃ W : Nat → Nat → Hp → Prop, (∃ m, W 0 m (upd H1 D (.lst []))) ∧ ∀ i' m H, W i' m H → ((Itt K a).stop i' H ∧ Qd H) ∨ ((Itt K a).go i' H ∧ ∃ Nx : Hp → Prop, (∀ H', Nx H' → ∃ m', m' < m ∧ W (i' + 1) m' H') ∧
      ∀ x H', (Itt K a).yld i' H x H' → gTup K 2 (gCons (gName i) (gCons (gName j) gNil)) x (wipe σ vs) H' fun σ2 H2 => wipe σ2 vs = wipe σ vs ∧ tYes σ2 H2 fun b H3 => if b = true then te σ2 H3 fun y H4 => ∃ acc, H4 D = some (.lst acc) ∧ acc.length < sizeLine ∧ Nx (upd H4 D (.lst (acc ++ [y]))) else Nx H3) := by
  refine lc_tup (fun n H' => Grow K H1 D ((r.take n).map F) H') (by rw [List.take_zero]; exact Grow.start hD) (fun n H' _ A => sqT_same hs A.same) ?_ ?_
  · intro n x H' hx A
    obtain ⟨it, q, hit, rfl, hq⟩ := rowAt l hx
    obtain ⟨ys, eD, lD⟩ := A.ex
    have lt := (List.getElem?_eq_some_iff.mp hit).1
    refine ⟨q, _, rfl, sqT_same hq A.same, rfl, _, _, rfl, _, _, rfl, rfl, hw _ _, ?_⟩
    simp only [tYes, if_true]
    refine each n it H' hit A.same (by rw [eD]; exact fun z => by cases z) _ (fun y H'' s'' dy => ⟨ys, s'' _ _ eD, ?_, ?_⟩)
    · rw [A.len eD, List.length_map, List.length_take, sizeLine_eq]
      omega
    · rw [List.take_add_one, hit]
      show Grow K H1 D ((r.take n ++ [it]).map F) _
      rw [List.map_append]
      exact (A.ext s'').push (s'' _ _ eD) dy
  · intro H' A
    rw [rowLen l, List.take_length] at A
    exact done H' A.same A.dp
/-- a set made of a row's letters -/
theorem sc_row {w : World} {K : PySem.W.Frag} {a : Addr} {xs : List V} {r : RowT} {te : TE} {vs : List Nat} {σ : L2.St} {H1 : Hp} {D : Addr} {Qd : Hp → Prop} {i j : Nat} (hs : SqT K H1 a xs) (l : DpAll K H1 xs (r.map itemD)) (few : r.length ≤ 1000) (hD : H1 D = none) (hw : ∀ u v, wipe (((wipe σ vs).set i u).set j v) vs = wipe σ vs)
    (each : ∀ (it : Str × Int) H' (Q : VK), Q (.str it.1) H' → te (((wipe σ vs).set i (some (.str it.1))).set j (some (.int it.2))) H' Q)
    (done : ∀ H', Same H1 H' → H' D = some (SetTO w D (setS (r.map (·.1)))) → Qd H') :
    ∃ W : Nat → Nat → Hp → Prop, (∃ m, W 0 m (upd H1 D (SetTO w D []))) ∧ ∀ i' m H, W i' m H → ((Itt K a).stop i' H ∧ Qd H) ∨ ((Itt K a).go i' H ∧ ∃ Nx : Hp → Prop, (∀ H', Nx H' → ∃ m', m' < m ∧ W (i' + 1) m' H') ∧
      ∀ x H', (Itt K a).yld i' H x H' → turnT w (gTup K 2 (gCons (gName i) (gCons (gName j) gNil))) tYes te vs σ D Nx x H') := by
  refine scT_tup (xs := xs) (fun n H' => Same H1 H' ∧ H' D = some (SetTO w D (setS ((r.map (·.1)).take n)))) ⟨Same.new hD, upd_same⟩ (fun n H' _ p => sqT_same hs p.1) ?_ ?_
  · rintro n x H' hx ⟨s', e⟩
    obtain ⟨it, q, hit, rfl, hq⟩ := rowAt l hx
    have lt := (List.getElem?_eq_some_iff.mp hit).1
    refine ⟨q, _, rfl, sqT_same hq s', rfl, _, _, rfl, _, _, rfl, rfl, hw _ _, ?_⟩
    simp only [tYes, if_true]
    refine each it H' _ ⟨it.1, _, rfl, e, ?_, Same.over s' hD _, ?_⟩
    · have z := setS_len ((r.map (·.1)).take n)
      rw [List.length_take, List.length_map] at z
      unfold scanBound
      omega
    · rw [upd_same, setS_snoc (x := it.1) (by rw [List.getElem?_map, hit]; rfl)]
  · rintro H' ⟨s', e⟩
    rw [rowLen l, ← List.length_map (f := fun x : Str × Int => x.1), List.take_length] at e
    exact done H' s' e
/-! ### sorted texts -/
theorem addS_nodup {ks : List Str} {k : Str} (h : ks.Nodup) : (addS ks k).Nodup := by
  unfold addS
  split
  · exact h
  · rename_i n
    exact List.nodup_cons.mpr ⟨n, h⟩
theorem setS_nodup (xs : List Str) : (setS xs).Nodup := by
  have g : ∀ (xs ks : List Str), ks.Nodup → (xs.foldl addS ks).Nodup := by
    intro xs
    induction xs with
    | nil => intro ks h; exact h
    | cons x r ih => intro ks h; exact ih _ (addS_nodup h)
  exact g xs [] List.nodup_nil
theorem rising_pair : ∀ (l : List Str) (p : Str), risingS p l = true → (∀ x ∈ l, p.cps.toList ≤ x.cps.toList) ∧ l.Pairwise (fun a b => a.cps.toList ≤ b.cps.toList)
  | [], p, _ => ⟨(fun x h => by cases h), List.Pairwise.nil⟩
  | x :: r, p, h => by
    have z : (!ltCps x.cps.toList p.cps.toList && risingS x r) = true := h
    rw [Bool.and_eq_true, ltCps_eq] at z
    have le : p.cps.toList ≤ x.cps.toList := List.not_lt.mp (by simpa using z.1)
    obtain ⟨h1, h2⟩ := rising_pair r x z.2
    refine ⟨fun y hy => ?_, List.pairwise_cons.mpr ⟨h1, h2⟩⟩
    rcases List.mem_cons.mp hy with e | hy
    · rw [e]; exact le
    · exact List.le_trans le (h1 y hy)
theorem sorted_pair {l : List Str} (h : sortedS l = true) : l.Pairwise (fun a b => a.cps.toList ≤ b.cps.toList) := by
  cases l with
  | nil => exact List.Pairwise.nil
  | cons x r =>
    obtain ⟨h1, h2⟩ := rising_pair r x h
    exact List.pairwise_cons.mpr ⟨h1, h2⟩
theorem sorted_uniq {a b : List Str} (ha : sortedS a = true) (hb : sortedS b = true) (p : a.Perm b) : a = b :=
  List.Perm.eq_of_pairwise (fun x y _ _ h1 h2 => Str.ext' (by have z := List.le_antisymm h1 h2; exact Array.toList_inj.mp z)) (sorted_pair ha) (sorted_pair hb) p
end GL
/-! a tuple backward: t[::-1] -/
namespace GL
open PySem PySem.Spec PyProof.Rows L2
theorem rev_pick (xs : Array Value) (n : Nat) (h : n = xs.size) : ((List.range n).filterMap fun (m : Nat) => xs[(((n : Int) - 1) + (m : Int) * (-1)).toNat]?).toArray = xs.toList.reverse.toArray := by
  congr 1
  subst h
  apply List.ext_getElem?
  intro i
  have e : (List.range xs.size).filterMap (fun (m : Nat) => xs[(((xs.size : Int) - 1) + (m : Int) * (-1)).toNat]?) = (List.range xs.size).map (fun m => xs[xs.size - 1 - m]?.getD .none) := by
    have g : ∀ l : List Nat, (∀ m ∈ l, m < xs.size) → l.filterMap (fun (m : Nat) => xs[(((xs.size : Int) - 1) + (m : Int) * (-1)).toNat]?) = l.map (fun m => xs[xs.size - 1 - m]?.getD .none) := by
      intro l
      induction l with
      | nil => intro _; rfl
      | cons m r ih =>
        intro hm
        have lt := hm m (List.mem_cons_self ..)
        have e1 : (((xs.size : Int) - 1) + (m : Int) * (-1)).toNat = xs.size - 1 - m := by omega
        have lt2 : xs.size - 1 - m < xs.size := by omega
        rw [List.filterMap_cons, e1, Array.getElem?_eq_getElem lt2, List.map_cons, Array.getElem?_eq_getElem lt2]
        dsimp only
        rw [ih (fun k hk => hm k (List.mem_cons_of_mem _ hk))]
        rfl
    exact g _ (fun m hm => List.mem_range.mp hm)
  rw [e, List.getElem?_map]
  by_cases hi : i < xs.size
  · rw [List.getElem?_range hi, List.getElem?_reverse (by simpa using hi)]
    have lt2 : xs.size - 1 - i < xs.size := by omega
    simp only [Option.map_some, Array.length_toList, Array.getElem?_toList]
    rw [Array.getElem?_eq_getElem lt2]
    rfl
  · rw [List.getElem?_eq_none (by simpa using hi), List.getElem?_eq_none (by simpa using hi)]
    rfl
section
variable {prog : Program} {w : World} {A : Around} {E : Value → Shared → Prop} {s : Shared}
theorem applied_rev {sl : Addr} {vl vu vs : Value} {n : Nat} {Q : Int × Int × Nat → Shared → Prop} (hs : s.heap.IsSliceOf sl vl vu vs) (pl : IsPart vl none) (pu : IsPart vu none) (ps : IsPart vs (some (-1))) (q : Q ((n : Int) - 1, -1, n) s) :
    wpAny (model prog w) A (Builtin.Slice.sliceApplied (.ref sl) (pure (n : Int))) Q E s := by
  obtain ⟨os, at_, _, fields⟩ := id hs
  unfold Builtin.Slice.sliceApplied Builtin.Slice.sliceFields
  refine wpAny_bind (wpAny_bind (wpAny_field at_ fields (x := vl) rfl ?_))
  refine wpAny_bind (wpAny_field at_ fields (x := vu) rfl ?_)
  refine wpAny_bind (wpAny_field at_ fields (x := vs) rfl (wpAny_pure ?_))
  refine wpAny_bind (HT.slicePart_ ps ?_)
  show wpAny _ _ (if ((-1 : Int) == 0) = true then _ else _) _ _ s
  rw [if_neg (by decide)]
  refine wpAny_bind (HT.slicePart_ pl (wpAny_bind (HT.slicePart_ pu (wpAny_bind (wpAny_pure ?_)))))
  have e1 : Builtin.Slice.sliceAdjust none none (-1) (n : Int) = ((n : Int) - 1, -1) := by
    unfold Builtin.Slice.sliceAdjust
    simp
  have e2 : Builtin.Slice.slicePlaces ((n : Int) - 1) (-1) (-1) = n := by
    unfold Builtin.Slice.slicePlaces
    rw [if_neg (by decide)]
    by_cases h : (n : Int) - 1 > -1
    · rw [if_pos h, Int.neg_neg, Int.ediv_one]
      omega
    · rw [if_neg h]
      show (0 : Int).toNat = n
      have : n = 0 := by omega
      rw [this]
      rfl
  show wpAny _ _ (match Builtin.Slice.sliceAdjust none none (-1) (n : Int) with | (lo, hi) => pure (lo, (-1 : Int), Builtin.Slice.slicePlaces lo hi (-1))) _ _ s
  rw [e1]
  show wpAny _ _ (pure ((n : Int) - 1, (-1 : Int), Builtin.Slice.slicePlaces ((n : Int) - 1) (-1) (-1))) _ _ s
  rw [e2]
  exact wpAny_pure q
theorem tuple_rev {t sl : Addr} {items : Array Value} {vl vu vs : Value} {Q : Value → Shared → Prop} (ht : IsTup s.heap t items) (hs : s.heap.IsSliceOf sl vl vu vs) (pl : IsPart vl none) (pu : IsPart vu none) (ps : IsPart vs (some (-1))) (few : items.size ≤ sizeLine)
    (q : Q (.ref s.heap.objs.size) { s with heap := s.heap.push { cls := .type "tuple", data := .seq items.toList.reverse.toArray } }) : wpAny (model prog w) A (getItem (.ref t) (.ref sl)) Q E s := by
  have ok : sizeOk (.seq items.toList.reverse.toArray) := by
    show items.toList.reverse.toArray.size ≤ sizeLine
    simpa using few
  obtain ⟨os, at_, cls_, _⟩ := id hs
  have typ : s.TypeIs (.ref sl) "slice" := ⟨os, at_, cls_⟩
  unfold getItem
  try with_reducible refine wpAny_holding ?_
  first | refine wpAny_bind (wpAny_pure ?_) | skip
  refine wpAny_bind (wpAny_sequenceKey ht.typeIs (by decide) ?_)
  refine wpAny_bind (wpAny_callSpecial?_slot (name := Str.ofString "__getitem__") ht.typeIs PyProof.Rows.slot_tuple_getitem (wpAny_call_entry PyProof.Rows.slot_tuple_getitem ht.typeIs entry_tuple_getitem ?_ (args_tuple_getitem _ _)))
  show wpAny _ _ (Builtin.Tuple.tupleItemsOf (.ref t) >>= fun _ => _) _ _ s
  refine wpAny_bind (tupleItemsOf_ ht ?_)
  refine wpAny_bind (wpAny_typeOf typ ?_)
  rw [if_pos (by decide)]
  refine wpAny_bind (applied_rev hs pl pu ps ?_)
  have no : ¬ (((((items.size : Int) - 1) == 0 && ((-1 : Int) == 1)) && (items.size == items.size)) = true) := by
    rw [show ((-1 : Int) == 1) = false from rfl, Bool.and_false, Bool.false_and]
    exact Bool.false_ne_true
  show wpAny _ _ (if ((((items.size : Int) - 1) == 0 && ((-1 : Int) == 1)) && (items.size == items.size)) = true then _ else _) _ _ s
  rw [if_neg no, rev_pick items items.size rfl]
  first
    | exact wpAny_bind (m := Builtin.Tuple.tupleExact _) (wpAny_newObj_type (wpAny_pure ⟨_, rfl, wpAny_pure q⟩) ok)
    | exact wpAny_bind (m := Builtin.Tuple.tupleExact _) (wpAny_newObj_type (wpAny_bind (wpAny_pure (wpAny_pure ⟨_, rfl, wpAny_pure q⟩))) ok)
    | exact wpAny_bind (wpAny_bind (m := Builtin.Tuple.tupleExact _) (wpAny_newObj_type (wpAny_pure (wpAny_pure ⟨_, rfl, wpAny_pure q⟩)) ok))
    | exact wpAny_bind (wpAny_bind (m := Builtin.Tuple.tupleExact _) (wpAny_newObj_type (wpAny_pure ⟨_, rfl, wpAny_pure q⟩) ok))
end
section
variable {X : Cx}
def tRevT (K : PySem.W.Frag) (te : TE) : TE := fun σ H Q => te σ H fun x H1 => ∃ a xs, x = .ref a ∧ SqT K H1 a xs ∧ ∀ p, H1 p = none → Q (.ref p) (upd H1 p (.tup xs.reverse))
theorem pe_revT {e : Expr} {te : TE} {k : Nat} {p1 p2 p3 pos : Pos} (he : PE X e te) : PE X (.Subscript e (.Slice none none (some (.UnaryOp .USub (.Constant (.int 1) k p1) p2)) p3) pos) (tRevT X.K te) := by
  refine ⟨fun pins s σ H Q I h => ?_⟩
  refine Subscript_ (thn (he.run pins s σ H _ I h) fun v s1 ⟨x, H1, I1, r1, a, xs, ex, hx, q⟩ => ?_)
  subst ex
  cases (show v = Value.ref a from r1)
  have back : PO X (some (.UnaryOp .USub (.Constant (.int 1) k p1) p2)) (tPart (tUn (rU fun i => .int (-i)) (tC (.int 1)))) := po_some (pe_un un_neg pe_int)
  refine wpAny_Slice (thn (po_none.run pins s1 σ H1 (fun o H2 => o = none ∧ H2 = H1) I1 ⟨rfl, rfl⟩) fun vl s2 ⟨l, H2, I2, pl, el, e2⟩ => ?_)
  subst el e2
  refine thn (po_none.run pins s2 σ H2 (fun o H3 => o = none ∧ H3 = H2) I2 ⟨rfl, rfl⟩) fun vu s3 ⟨u, H3, I3, pu, eu, e3⟩ => ?_
  subst eu e3
  refine thn (back.run pins s3 σ H3 (fun o H4 => o = some (-1) ∧ H4 = H3) I3 ⟨1, rfl, -1, rfl, rfl, rfl⟩) fun vs s4 ⟨o, H4, I4, ps, eo, e4⟩ => ?_
  subst eo e4
  have I5 : Inv X pins σ H4 { s4 with heap := s4.heap.push { cls := .type "slice", data := .fields #[vl, vu, vs] } } := I4.kept (t' := s4.toks) fun b ob z => Heap.get?_push_of_some _ z
  obtain ⟨its, r, isT, few⟩ := I5.tuple hx
  have len := r.length
  show wpAny (model X.prog X.w) X.A (subscriptTail e (.Slice none none (some (.UnaryOp .USub (.Constant (.int 1) k p1) p2)) p3) (.ref a) (.ref s4.heap.objs.size)) (EP X pins σ Q) X.xe { s4 with heap := s4.heap.push { cls := .type "slice", data := .fields #[vl, vu, vs] } }
  refine tail_any (ops := [.ref a, .ref s4.heap.objs.size]) isT.typeIs PyProof.Rows.slot_tuple_getitem.lookup ?_ (by with_unfolding_all rfl)
  refine tuple_rev isT (Heap.IsSliceOf.new _ vl vu vs) pl pu ps (by rw [List.size_toArray, ← len]; exact few) ?_
  refine ⟨.ref _, _, I5.laid (t' := s4.toks) (o := .tup xs.reverse) (fun b ob z => Heap.get?_push_of_some _ z) (Nat.le_refl _) ⟨by rw [List.length_reverse]; exact few, _, r.reverse, IsTup.new _ _⟩, rfl, q _ (I5.hok.fresh (Nat.le_refl _))⟩
end
end GL
/-! data that is short when shown; data without lists, kept while lists change -/
namespace GL
open PySem PySem.Spec PyProof.Rows L2
structure Mini (k n : Nat) (d : PyData) : Prop where
  s : d.showable = true
  h : d.hasDict = false
  l : PyData.leavesShort 300 d = true
  dep : d.depth ≤ k
  b : d.bulk ≤ n
section
variable {k n m : Nat} {d : PyData} {ds : List PyData}
theorem Mini.mono {k' n' : Nat} (h : Mini k n d) (a : k ≤ k') (b : n ≤ n') : Mini k' n' d := ⟨h.s, h.h, h.l, Nat.le_trans h.dep a, Nat.le_trans h.b b⟩
theorem Mini.non : Mini 0 0 .none := ⟨rfl, rfl, rfl, by simp [PyData.depth], by simp [PyData.bulk]⟩
theorem Mini.bl {b : Bool} : Mini 0 0 (.bool b) := ⟨rfl, rfl, rfl, by simp [PyData.depth], by simp [PyData.bulk]⟩
theorem Mini.int {i : Int} (h : i.natAbs < 10 ^ 9) : Mini 0 0 (.int i) := by
  refine ⟨decide_eq_true (Nat.lt_trans (PySem.Flt.log2_lt_of (k := 40) (by decide) (Nat.lt_trans h (by decide))) (by decide)), rfl, ?_, by simp [PyData.depth], by simp [PyData.bulk]⟩
  refine decide_eq_true ?_
  have e := int_text_length_le10 (a := i) (k := 9) (by decide) h
  show (Str.ofString (toString i)).length ≤ 300
  rw [PySem.ofString_length]
  exact Nat.le_trans e (by decide)
theorem Mini.str {y : Str} (ok : PyData.strOk y = true) (h : y.length ≤ n) : Mini 0 n (.str y) := by
  refine ⟨rfl, rfl, ?_, by simp [PyData.depth], by simpa [PyData.bulk, Str.length] using h⟩
  show (y.cps.toList.all fun c => decide (c < 16 ^ 8)) = true
  rw [List.all_eq_true]
  intro c hc
  unfold PyData.strOk at ok
  rw [Array.all_eq_true'] at ok
  have z := ok c (by simpa using hc)
  exact decide_eq_true (Nat.lt_trans (of_decide_eq_true z) (by decide))
theorem Mini.all (h : ∀ d ∈ ds, Mini k n d) : PyData.showableAll ds = true ∧ PyData.hasDictAll ds = false ∧ PyData.leavesShortAll 300 ds = true ∧ PyData.depthAll ds ≤ k ∧ PyData.bulkAll ds ≤ (n + 1) * ds.length := by
  induction ds with
  | nil => exact ⟨rfl, rfl, rfl, by simp [PyData.depthAll], by simp [PyData.bulkAll]⟩
  | cons x r ih =>
    obtain ⟨a1, a2, a3, a4, a5⟩ := ih (fun d hd => h d (List.mem_cons_of_mem _ hd))
    have z := h x (List.mem_cons_self ..)
    refine ⟨?_, ?_, ?_, ?_, ?_⟩
    · show (x.showable && PyData.showableAll r) = true
      rw [z.s, a1]; rfl
    · show (x.hasDict || PyData.hasDictAll r) = false
      rw [z.h, a2]; rfl
    · show (PyData.leavesShort 300 x && PyData.leavesShortAll 300 r) = true
      rw [z.l, a3]; rfl
    · simp only [PyData.depthAll]
      have := z.dep
      omega
    · simp only [PyData.bulkAll, List.length_cons]
      have := z.b
      rw [Nat.mul_add, Nat.mul_one]
      omega
theorem Mini.tup (h : ∀ d ∈ ds, Mini k n d) (c : (n + 1) * ds.length ≤ m) : Mini (k + 1) m (.tuple ds) := by
  obtain ⟨a1, a2, a3, a4, a5⟩ := Mini.all h
  exact ⟨a1, a2, a3, by simp only [PyData.depth]; omega, by simp only [PyData.bulk]; omega⟩
theorem Mini.lst (h : ∀ d ∈ ds, Mini k n d) (c : (n + 1) * ds.length ≤ m) : Mini (k + 1) m (.list ds) := by
  obtain ⟨a1, a2, a3, a4, a5⟩ := Mini.all h
  exact ⟨a1, a2, a3, by simp only [PyData.depth]; omega, by simp only [PyData.bulk]; omega⟩
theorem Mini.len (h : Mini k n d) (c : n ≤ 20000) : d.shown.length ≤ sizeLine := by
  have z := PyData.shown_le_bulk 300 (by decide) d h.l
  have b := h.b
  rw [sizeLine_eq]
  have : (300 + 2) * d.bulk ≤ 302 * 20000 := Nat.mul_le_mul (Nat.le_refl _) (by omega)
  omega
end
/-! ### no lists -/
mutual
def noL : PyData → Bool
  | .list _ => false
  | .dict _ => false
  | .tuple ds => noLs ds
  | _ => true
def noLs : List PyData → Bool
  | [] => true
  | d :: r => noL d && noLs r
end
/-- all but lists is kept -/
def TK (H H' : Hp) : Prop := ∀ b o, H b = some o → (∀ xs, o ≠ .lst xs) → H' b = some o
section
variable {K : PySem.W.Frag} {H H' H2 : Hp}
theorem TK.of (s : Same H H') : TK H H' := fun b o e _ => s b o e
theorem TK.trans (a : TK H H') (b : TK H' H2) : TK H H2 := fun c o e n => b c o (a c o e n) n
theorem TK.got {p : Addr} (g : Got p H H') (d : Die H p) : TK H H' := fun b o e n => g.keep b o e (fun z => by
  obtain ⟨_, _, _, _, e0⟩ := d
  rw [z, e0] at e
  cases e
  exact n _ rfl)
theorem TK.over {l : Addr} {xs : List V} {o : HO} (e : H l = some (.lst xs)) : TK H (upd H l o) := fun b u h n => by
  rw [upd_ne (fun z => by rw [z, e] at h; cases h; exact n _ rfl)]
  exact h
theorem sqT_tk {a : Addr} {xs : List V} (h : SqT K H a xs) (t : TK H H') : SqT K H' a xs := by
  rcases h with (z | ⟨o, z⟩) | z
  · exact .inl (.inl (t _ _ z (fun _ q => by cases q)))
  · exact .inl (.inr ⟨o, t _ _ z (fun _ q => by cases q)⟩)
  · exact .inr z
mutual
theorem dp_tk (t : TK H H') : ∀ {x : V} {d : PyData}, Dp K H x d → noL d = true → Dp K H' x d
  | _, _, .non, _ => .non
  | _, _, .bl b, _ => .bl b
  | _, _, .int i, _ => .int i
  | _, _, .str y, _ => .str y
  | _, _, .lst h a, n => by simp [noL] at n
  | _, _, .tup h a, n => .tup (sqT_tk h t) (dps_tk t a (by simpa [noL] using n))
theorem dps_tk (t : TK H H') : ∀ {xs : List V} {ds : List PyData}, DpAll K H xs ds → noLs ds = true → DpAll K H' xs ds
  | _, _, .nil, _ => .nil
  | _, _, .cons h a, n => by
    have z := Bool.and_eq_true_iff.mp (by simpa [noLs] using n)
    exact .cons (dp_tk t h z.1) (dps_tk t a z.2)
end
theorem noLs_of {ds : List PyData} (h : ∀ d ∈ ds, noL d = true) : noLs ds = true := by
  induction ds with
  | nil => rfl
  | cons x r ih =>
    show (noL x && noLs r) = true
    rw [h x (List.mem_cons_self ..), ih (fun d hd => h d (List.mem_cons_of_mem _ hd))]
    rfl
theorem noL_row (r : RowT) : noL (rowD r) = true := by
  show noLs (r.map itemD) = true
  refine noLs_of fun d hd => ?_
  obtain ⟨it, _, rfl⟩ := List.mem_map.mp hd
  rfl
theorem noL_strs (ys : List Str) : noL (.tuple (ys.map PyData.str)) = true := by
  show noLs (ys.map PyData.str) = true
  refine noLs_of fun d hd => ?_
  obtain ⟨it, _, rfl⟩ := List.mem_map.mp hd
  rfl
theorem noL_pts (ps : List (Int × Int)) : noL (.tuple (ps.map ptD)) = true := by
  show noLs (ps.map ptD) = true
  refine noLs_of fun d hd => ?_
  obtain ⟨it, _, rfl⟩ := List.mem_map.mp hd
  rfl
end
end GL
/-! rules that name the written part, for blocks -/
namespace GL
open PySem PySem.Spec PyProof.Rows L2
section
variable {X : Cx} {K0 : PySem.W.Frag} {e : Expr} {ta te : TE} {f : Str} {pos : Pos} {tg : Expr}
theorem pe_fldK (hK : X.K = K0) (he : PE X e ta) (hb : attributeBase e f X.env (eval e X.env) = eval e X.env) : PE X (.Attribute e f pos) (tFld K0 ta f) := by
  subst hK
  exact pe_fld he hb
theorem ix_tupK (hK : X.K = K0) : IxR X (rIxT K0) := by
  subst hK
  exact ix_tup
theorem pi_tupK (hK : X.K = K0) (he : PE X e te) : PI X tg e (iTup K0 te) := by
  subst hK
  exact pi_tup he
theorem call_dictPK (hK : X.K = K0) (hcalm : X.calm = true) : CallR X (.type "dict") (fun xs H Q => ∃ (a : Addr) (ps : List Addr) (kvs : List (Key × V)), xs = [.ref a] ∧ SqL K0 H a (ps.map V.ref) ∧ Paired (fun p kv => SqT K0 H p [kV kv.1, kv.2]) ps kvs ∧
    ∀ p, H p = none → Q (.ref p) (upd H p (.dK (mergeK [] kvs)))) := by
  subst hK
  exact call_dictP hcalm
end
end GL
/-! classmethods called off a class, a class in a local variable called, where repr may be asked -/
namespace GL
open PySem PySem.Spec PyProof.Rows L2
section
variable {X : Cx} {CX : CXT} {k : Nat} {C p g f : Addr} {mc : Value} {m x : Str} {fd : FuncData} {ps : List Str} {sp : Sp} {E : XK} {o e : Expr} {es : List Expr} {ta : TE} {t : TA} {pos apos pv_ : Pos}
theorem run_cmG {pins : List (Addr × Obj)} {σ : L2.St} {H : Hp} {s : Shared} {Q : VK} {us : List Value} {vs : List V} {q : Addr} (F : FnG X.prog X.w X.K X.mg X.base CX k g fd ps sp) (gd : Gd X.A) (hr : Room k X.A) (hb : Binds X.K fd ps []) (hx : Passes CX X E) (I : Inv X ((q, PySem.W.methodObj (.ref g) (.ref C)) :: pins) σ H s)
    (r : Vals vs us) (h : sp (.ref C :: vs) H Q E) : wpAny (model X.prog X.w) X.A (call (.ref q) us) (EP X pins σ Q) X.xe s := by
  have rr : Vals (V.ref C :: vs) (Value.ref C :: us) := .cons rfl r
  have n1 : ((Value.ref C :: us) ++ []).length = ps.length := by rw [List.append_nil, ← rr.length]; exact F.len _ _ _ _ h
  have b1 := hb s (Value.ref C :: us) I.kIn n1
  rw [List.append_nil] at b1
  have z : wpAny (model X.prog X.w) X.A (call (.ref q) us) (EP X ((q, PySem.W.methodObj (.ref g) (.ref C)) :: pins) σ Q) X.xe s := by
    refine wpAny_call (PySem.W.method_call (ClX.pin_at I) ?_)
    refine codeAny_mono (F.go gd hr I.env0 b1 rr h) fun res s' hq => ?_
    cases res with
    | error e => exact hx _ σ H s e s' I hq
    | ok fl =>
      cases fl with
      | ret u => exact I.after hq
      | next => exact False.elim hq
      | brk => exact False.elim hq
      | cont => exact False.elim hq
  exact thn z fun _ _ y => ClX.unpinE y
/-- a classmethod of a class -/
structure HasCM (P : Program) (w : World) (K : PySem.W.Frag) (mg : Str → Option Value) (base : Heap) (CX : CXT) (C : Addr) (m : Str) (k : Nat) (ps : List Str) (sp : Sp) : Prop where
  ex : ∃ g fd mc p, FnG P w K mg base CX k g fd ps sp ∧ Binds K fd ps [] ∧ ClX.CRead K C mc ∧ ClX.CMet K C mc m p g
theorem pe_cmethG {pl : Sem Bool} (he : PE X o ta) (h : HasCM X.prog X.w X.K X.mg X.base CX C m k ps sp) (gd : Gd X.A) (hr : Room k X.A) (hx : Passes CX X E) (ha : PA X (e :: es) t)
    (hst : starEach (e :: es) X.env = (false, eval e X.env) :: starEach es X.env := by rfl) (hpl : (backTo pos (starEach es X.env)).any (·.1) = false := by rfl)
    (ht : eval (.Call (.Attribute o m apos) (e :: es) [] pos) X.env = ((eval o X.env).bind fun ov => (standAt apos.atName).bind fun _ => (holding [ov] (getMethod ov m pl)).bind fun fm =>
      callWith pos fm.1 fm.2 (backTo pos (starEach (e :: es) X.env)) (backToKw pos (keywordEach [] X.env))) := by rfl) :
    PE X (.Call (.Attribute o m apos) (e :: es) [] pos) (ClX.tCMeth C sp E ta t) := by
  obtain ⟨g, fd, mc, p, F, hb, r, c⟩ := h.ex
  refine ⟨fun pins s σ H Q I h => ?_⟩
  refine PySem.W.methodCall_KW (pl := pl) (thn (he.run pins s σ H _ I h) fun u s1 ⟨x, H1, I1, rx, ex, q⟩ => ?_) ht
  subst ex
  obtain rfl : u = Value.ref C := rx
  refine ClX.getmethcm_ok I1 r c fun s2 I2 => ?_
  refine ClX.callwith_cm I2 (ClX.base_none I1 (Nat.le_refl _)) c.fi (thn (ha.run pos _ s2 σ H1 _ I2 q) fun us s3 ⟨vs, H2, I3, rv, q2⟩ => ⟨⟨ClX.pin_at I3, I3.kIn⟩, ?_⟩) hst hpl
  exact run_cmG F gd hr hb hx I3 rv q2
/-- x(e, ..), x a local variable that holds a class -/
def tMakeV (i : Nat) (C : Addr) (sp : Sp) (E : XK) (t : TA) : TE := fun σ H Q => σ[i]? = some (some (.ref C)) ∧ tMake C sp [] E t σ H Q
theorem pe_makeV {i : Nat} (h : HasG X.prog X.w X.K X.mg X.base x C k ps sp) (gd : Gd X.A) (hr : Room (k + 1) X.A) (hx : Passes CX0 X E) (ha : PA X (e :: es) t) {y : Str} (hN : X.N[i]? = some y := by rfl) (hv : Vis X.env.scope y := by exact .inl rfl)
    (hd : (y == ("__debug__" : Str)) = false := by decide) (hcd : (y == ("__classdict__" : Str)) = false := by decide) (he : starEach (e :: es) X.env = (false, eval e X.env) :: starEach es X.env := by rfl) (hpl : (backTo pos (starEach es X.env)).any (·.1) = false := by rfl) :
    PE X (.Call (.Name y pv_) (e :: es) [] pos) (tMakeV i C sp E t) := by
  obtain ⟨f, fd, F, m, M, b⟩ := h.ex
  refine ⟨fun pins s σ H Q I q => ?_⟩
  obtain ⟨slot, q⟩ := q
  refine wpAny_Call_Name_kw (thn ((pe_var (pos := pv_) (i := i) hN hv hd hcd).run pins s σ H (fun v H1 => v = .ref C ∧ H1 = H) I ⟨.ref C, slot, rfl, rfl⟩) fun u s1 ⟨v, H1, I1, r1, q1⟩ => ?_)
  obtain ⟨ev, eH⟩ := q1
  subst ev
  rw [eH] at I1
  obtain rfl : u = Value.ref C := r1
  refine PySem.W.callWith_K (h₀ := X.base) I1.ok.mod.kin M.kp (thn (ha.run pos pins s1 σ H _ I1 q) fun us s2 ⟨vs, H2, I2, r, q2⟩ => ?_) he hpl
  exact ⟨I2.kIn, run_makeG M F gd hr b hx I2 r q2⟩
end
section
variable {X : Cx} {K0 : PySem.W.Frag} {T : String} {name : Str} {id : String} {r : V → List V → Hp → VK → Prop} {o e : Expr} {es : List Expr} {to : TE} {t : TA} {apos cpos : Pos}
theorem pe_bmK (hK : X.K = K0) (pa : PlainAttrs T) (slot : Slot T name id) (hty : typeOf (.builtin id) = pure (.type "method_descriptor")) (hm : MtR X id r) (ho : PE X o to) (ha : PA X (e :: es) t)
    (hbase : attributeBase o name X.env (eval o X.env) = eval o X.env := by rfl)
    (hfew : ((backTo cpos (starEach (e :: es) X.env)).all (fun x => !x.1) && (backToKw cpos (keywordEach [] X.env)).all (fun x => x.1.isSome)
      && decide ((e :: es).length + ([] : List Keyword).length + (if ([] : List Keyword).isEmpty then 0 else 1) < 30)) = true := by rfl)
    (hline : (apos.endLine == cpos.line) = true := by rfl) (hs : starEach (e :: es) X.env = (false, eval e X.env) :: starEach es X.env := by rfl) (hplain : (backTo cpos (starEach es X.env)).any (·.1) = false := by rfl) :
    PE X (.Call (.Attribute o name apos) (e :: es) [] cpos) (tBM K0 T r to t) := by
  subst hK
  exact pe_bm pa slot hty hm ho ha hbase hfew hline hs hplain
end
section
variable {P : Program} {w : World} {K : PySem.W.Frag} {mg : Str → Option Value} {base : Heap}
theorem Df.hasX {x : Str} {st : Stmt} {N ps : List Str} {k : Nat} {sp : Sp} (D : Df K mg x st) (S : FnScope N ps (defScope st)) (len : ∀ vs H Q E, sp vs H Q E → vs.length = ps.length)
    (bi : ∀ (kV doc pm : Value) (an : Option Addr) (cdv ct : Value) (us : List Value), us.length = ps.length → bindArgs (PySem.W.fnOf x x (defArgs st) (defBody st) (defScope st) .none kV doc pm an cdv ct) ⟨us, []⟩ = pure (ps.zip us))
    (body : ∀ (f : Addr) (cdv : Value) (A : Around) (outer : List Env) (s : Shared) (H : Hp) (vs : List V) (Q : VK) (E : XK), Gd (A.deeper (envOfC x (defScope st) s.heap.objs.size f cdv)) → Room k (A.deeper (envOfC x (defScope st) s.heap.objs.size f cdv)) → sp vs H Q E →
      ∃ t, PSs (cxOf (L2.CX P w) P w K mg base N x (defScope st) f cdv A outer s H E) (defBody st) t ∧ t { nx := fun _ H' => Q .non H', rt := Q } (start N vs) H) : Has P w K mg base (L2.CX P w) x (k + 1) ps sp := by
  obtain ⟨f, fd, F, m⟩ := D.ex
  exact ⟨f, fd, fnG_mk F S len (body f), m, F.kp, F.binds bi⟩
theorem Dm.hasX {C : Addr} {m qual : Str} {st : Stmt} {N ps : List Str} {k : Nat} {sp : Sp} (D : Dm K C m qual st) (S : FnScope N ps (defScope st)) (len : ∀ vs H Q E, sp vs H Q E → vs.length = ps.length)
    (bi : ∀ (kV doc pm : Value) (an : Option Addr) (cdv ct : Value) (us : List Value), us.length = ps.length → bindArgs (PySem.W.fnOf m qual (defArgs st) (defBody st) (defScope st) .none kV doc pm an cdv ct) ⟨us, []⟩ = pure (ps.zip us))
    (body : ∀ (f : Addr) (cdv : Value) (A : Around) (outer : List Env) (s : Shared) (H : Hp) (vs : List V) (Q : VK) (E : XK), Gd (A.deeper (envOfC qual (defScope st) s.heap.objs.size f cdv)) → Room k (A.deeper (envOfC qual (defScope st) s.heap.objs.size f cdv)) → sp vs H Q E →
      ∃ t, PSs (cxOf (L2.CX P w) P w K mg base N qual (defScope st) f cdv A outer s H E) (defBody st) t ∧ t { nx := fun _ H' => Q .non H', rt := Q } (start N vs) H) : HasM P w K mg base (L2.CX P w) C m (k + 1) ps sp := by
  obtain ⟨f, fd, F, M⟩ := D.ex
  exact ⟨f, fd, fnG_mk F S len (body f), M, F.binds bi⟩
end
/-- a classmethod's def -/
structure Dcm (K : PySem.W.Frag) (C : Addr) (m qual : Str) (st : Stmt) : Prop where
  ex : ∃ f fd mc p, Fun K m qual st f fd ∧ ClX.CRead K C mc ∧ ClX.CMet K C mc m p f
theorem Dcm.hasX {P : Program} {w : World} {K : PySem.W.Frag} {mg : Str → Option Value} {base : Heap} {C : Addr} {m qual : Str} {st : Stmt} {N ps : List Str} {k : Nat} {sp : Sp} (D : Dcm K C m qual st) (S : FnScope N ps (defScope st)) (len : ∀ vs H Q E, sp vs H Q E → vs.length = ps.length)
    (bi : ∀ (kV doc pm : Value) (an : Option Addr) (cdv ct : Value) (us : List Value), us.length = ps.length → bindArgs (PySem.W.fnOf m qual (defArgs st) (defBody st) (defScope st) .none kV doc pm an cdv ct) ⟨us, []⟩ = pure (ps.zip us))
    (body : ∀ (f : Addr) (cdv : Value) (A : Around) (outer : List Env) (s : Shared) (H : Hp) (vs : List V) (Q : VK) (E : XK), Gd (A.deeper (envOfC qual (defScope st) s.heap.objs.size f cdv)) → Room k (A.deeper (envOfC qual (defScope st) s.heap.objs.size f cdv)) → sp vs H Q E →
      ∃ t, PSs (cxOf (L2.CX P w) P w K mg base N qual (defScope st) f cdv A outer s H E) (defBody st) t ∧ t { nx := fun _ H' => Q .non H', rt := Q } (start N vs) H) : HasCM P w K mg base (L2.CX P w) C m (k + 1) ps sp := by
  obtain ⟨f, fd, mc, p, F, r, c⟩ := D.ex
  exact ⟨f, fd, mc, p, fnG_mk F S len (body f), F.binds bi, r, c⟩
end GL
namespace K11
open PySem PySem.Spec PyProof.Rows L2 GL
def topS (i : Nat) : Stmt := PySem.Challenge.pw_grownlines_k11_errors_of_rules.main.body.getD i (.Pass ⟨0, 0, 0, 0⟩)
abbrev s_plus : Stmt := topS 2
abbrev N_plus : List Str := ["one", "other"]
theorem sc_plus : FnScope N_plus ["one", "other"] (defScope s_plus) := ⟨rfl, rfl, rfl, by decide +kernel, rfl, by decide +kernel, by decide +kernel⟩
abbrev s_trail : Stmt := topS 4
abbrev N_trail : List Str := ["grid", "directions", "points", "direction"]
theorem sc_trail : FnScope N_trail ["grid", "directions"] (defScope s_trail) := ⟨rfl, rfl, rfl, by decide +kernel, rfl, by decide +kernel, by decide +kernel⟩
abbrev s_is_integer : Stmt := topS 8
abbrev N_is_integer : List Str := ["value"]
theorem sc_is_integer : FnScope N_is_integer ["value"] (defScope s_is_integer) := ⟨rfl, rfl, rfl, by decide +kernel, rfl, by decide +kernel, by decide +kernel⟩
abbrev s_is_count : Stmt := topS 9
abbrev N_is_count : List Str := ["value"]
theorem sc_is_count : FnScope N_is_count ["value"] (defScope s_is_count) := ⟨rfl, rfl, rfl, by decide +kernel, rfl, by decide +kernel, by decide +kernel⟩
abbrev s_is_letter : Stmt := topS 10
abbrev N_is_letter : List Str := ["value"]
theorem sc_is_letter : FnScope N_is_letter ["value"] (defScope s_is_letter) := ⟨rfl, rfl, rfl, by decide +kernel, rfl, by decide +kernel, by decide +kernel⟩
abbrev s__check_grid : Stmt := topS 30
abbrev N__check_grid : List Str := ["grid"]
theorem sc__check_grid : FnScope N__check_grid ["grid"] (defScope s__check_grid) := ⟨rfl, rfl, rfl, by decide +kernel, rfl, by decide +kernel, by decide +kernel⟩
abbrev s_is_turn : Stmt := topS 31
abbrev N_is_turn : List Str := ["grid", "value"]
theorem sc_is_turn : FnScope N_is_turn ["grid", "value"] (defScope s_is_turn) := ⟨rfl, rfl, rfl, by decide +kernel, rfl, by decide +kernel, by decide +kernel⟩
abbrev s_is_item : Stmt := topS 32
abbrev N_is_item : List Str := ["grid", "value"]
theorem sc_is_item : FnScope N_is_item ["grid", "value"] (defScope s_is_item) := ⟨rfl, rfl, rfl, by decide +kernel, rfl, by decide +kernel, by decide +kernel⟩
abbrev s_is_row : Stmt := topS 33
abbrev N_is_row : List Str := ["grid", "value", "least", "item"]
theorem sc_is_row : FnScope N_is_row ["grid", "value", "least"] (defScope s_is_row) := ⟨rfl, rfl, rfl, by decide +kernel, rfl, by decide +kernel, by decide +kernel⟩
abbrev s_row_text : Stmt := topS 35
abbrev N_row_text : List Str := ["items", "letter", "turn"]
theorem sc_row_text : FnScope N_row_text ["items"] (defScope s_row_text) := ⟨rfl, rfl, rfl, by decide +kernel, rfl, by decide +kernel, by decide +kernel⟩
abbrev s_Grid_WinitW : Stmt := inClass (topS 25) 0
abbrev N_Grid_WinitW : List Str := ["self", "name"]
theorem sc_Grid_WinitW : FnScope N_Grid_WinitW ["self", "name"] (defScope s_Grid_WinitW) := ⟨rfl, rfl, rfl, by decide +kernel, rfl, by decide +kernel, by decide +kernel⟩
abbrev s_Grid_WeqW : Stmt := inClass (topS 25) 11
abbrev N_Grid_WeqW : List Str := ["self", "other"]
theorem sc_Grid_WeqW : FnScope N_Grid_WeqW ["self", "other"] (defScope s_Grid_WeqW) := ⟨rfl, rfl, rfl, by decide +kernel, rfl, by decide +kernel, by decide +kernel⟩
abbrev s_Rule_WinitW : Stmt := inClass (topS 39) 0
abbrev N_Rule_WinitW : List Str := ["self", "grid", "items", "points", "letter", "turn"]
theorem sc_Rule_WinitW : FnScope N_Rule_WinitW ["self", "grid", "items"] (defScope s_Rule_WinitW) := ⟨rfl, rfl, rfl, by decide +kernel, rfl, by decide +kernel, by decide +kernel⟩
abbrev s_Rule_WgetitemW : Stmt := inClass (topS 39) 7
abbrev N_Rule_WgetitemW : List Str := ["self", "index"]
theorem sc_Rule_WgetitemW : FnScope N_Rule_WgetitemW ["self", "index"] (defScope s_Rule_WgetitemW) := ⟨rfl, rfl, rfl, by decide +kernel, rfl, by decide +kernel, by decide +kernel⟩
abbrev s_Rule_WcontainsW : Stmt := inClass (topS 39) 8
abbrev N_Rule_WcontainsW : List Str := ["self", "value"]
theorem sc_Rule_WcontainsW : FnScope N_Rule_WcontainsW ["self", "value"] (defScope s_Rule_WcontainsW) := ⟨rfl, rfl, rfl, by decide +kernel, rfl, by decide +kernel, by decide +kernel⟩
abbrev s_Rule_WiterW : Stmt := inClass (topS 39) 9
abbrev N_Rule_WiterW : List Str := ["self"]
theorem sc_Rule_WiterW : FnScope N_Rule_WiterW ["self"] (defScope s_Rule_WiterW) := ⟨rfl, rfl, rfl, by decide +kernel, rfl, by decide +kernel, by decide +kernel⟩
abbrev s_Rule_WlenW : Stmt := inClass (topS 39) 10
abbrev N_Rule_WlenW : List Str := ["self"]
theorem sc_Rule_WlenW : FnScope N_Rule_WlenW ["self"] (defScope s_Rule_WlenW) := ⟨rfl, rfl, rfl, by decide +kernel, rfl, by decide +kernel, by decide +kernel⟩
abbrev s_Rule_WeqW : Stmt := inClass (topS 39) 11
abbrev N_Rule_WeqW : List Str := ["self", "other"]
theorem sc_Rule_WeqW : FnScope N_Rule_WeqW ["self", "other"] (defScope s_Rule_WeqW) := ⟨rfl, rfl, rfl, by decide +kernel, rfl, by decide +kernel, by decide +kernel⟩
abbrev s_Rule_WstrW : Stmt := inClass (topS 39) 12
abbrev N_Rule_WstrW : List Str := ["self"]
theorem sc_Rule_WstrW : FnScope N_Rule_WstrW ["self"] (defScope s_Rule_WstrW) := ⟨rfl, rfl, rfl, by decide +kernel, rfl, by decide +kernel, by decide +kernel⟩
structure Txt (K : PySem.W.Frag) (mg : Str → Option Value) (aG dU C CR : Addr) : Prop where
  zisinstance : mg "isinstance" = none
  zbool : mg "bool" = none
  zint : mg "int" = none
  zstr : mg "str" = none
  ztuple : mg "tuple" = none
  zlist : mg "list" = none
  zdict : mg "dict" = none
  zset : mg "set" = none
  zsorted : mg "sorted" = none
  zall : mg "all" = none
  zlen : mg "len" = none
  zmax : mg "max" = none
  zmin : mg "min" = none
  zabs : mg "abs" = none
  zrange : mg "range" = none
  zrepr : mg "repr" = none
  ziter : mg "iter" = none
  g_BOUND : MgV mg "_BOUND" (.int B)
  g_TURNS : MgV mg "_TURNS" (.str "012345")
  gLETTERS : MgV mg "LETTERS" (.str "abcdefghijklmnopqrstuvwxyz")
  gMIN_ITEMS : MgV mg "MIN_ITEMS" (.int 2)
  gMAX_ITEMS : MgV mg "MAX_ITEMS" (.int 12)
  gGRIDS : MgV mg "GRIDS" (.ref aG)
  g_UNITS : MgV mg "_UNITS" (.ref dU)
  gGrid : MgV mg "Grid" (.ref C)
  gRule : MgV mg "Rule" (.ref CR)
section
variable {P : Program} {w : World} {K : PySem.W.Frag} {mg : Str → Option Value} {base : Heap}
variable {aG dU C CR : Addr} {U : Bool → Addr} {us : Bool → List Addr}
theorem h_is_integer (T : Txt K mg aG dU C CR) (D : Df K mg "is_integer" s_is_integer) : Has P w K mg base CX0 "is_integer" 1 ["value"] (spIsInt K) := by
  refine D.has sc_is_integer (fun vs H Q E h => ?_) (fun kV doc pm an cdv ct us hl => match us, hl with | [_], _ => rfl) (fun f cdv A outer s H vs Q E gd hr h => ?_)
  · obtain ⟨x, k, rfl, _⟩ := h
    rfl
  · obtain ⟨x, k, rfl, hk, q⟩ := h
    refine ⟨_, (pss_cons
 (ps_if (PW.pt (pw_or (pt_val (pe_callB call_isi (by exact rfl) T.zisinstance (by decide +kernel) (pa_cons (pv 0) (pa_cons (pe_bltn (v := .ty "bool") (by exact rfl) T.zbool (by decide +kernel) rfl) pa_nil)))) (pw_or1 (pt_not (pt_val (pe_callB call_isi (by exact rfl) T.zisinstance (by decide +kernel) (pa_cons (pv 0) (pa_cons (pe_bltn (v := .ty "int") (by exact rfl) T.zint (by decide +kernel) rfl) pa_nil)))))))) (pss_one
 (ps_ret pe_bl)) pss_nil)
 (pss_one
 (ps_ret (pe_chain op_lt op_lt (pe_un un_neg (pe_globV T.g_BOUND)) (pv 0) (pe_globV T.g_BOUND))))), ?_⟩
    refine ⟨_, rfl, _, _, _, _, _, rfl, .ty _, hk, kit_bool _, _, rfl, ?_⟩
    cases k with
    | bl =>
      obtain ⟨b, rfl⟩ := hk.blI
      exact iteT (iteT q)
    | int =>
      obtain ⟨i, rfl⟩ := hk.intI
      refine iteF ⟨_, rfl, _, _, _, _, _, rfl, .ty _, hk, kit_int _, _, rfl, iteF ⟨_, rfl, _, rfl, _, _, rfl, rfl, _, rfl, ?_⟩⟩
      by_cases h1 : -B < i
      · have e : isIntV (.int i) = decide (i < B) := by show (decide (-B < i) && decide (i < B)) = _; rw [decide_eq_true h1, Bool.true_and]
        rw [e] at q
        rw [decide_eq_true h1]
        exact iteT ⟨_, _, rfl, rfl, q⟩
      · have e : isIntV (.int i) = false := by show (decide (-B < i) && decide (i < B)) = _; rw [decide_eq_false h1, Bool.false_and]
        rw [e] at q
        rw [decide_eq_false h1]
        exact iteF q
    | _ =>
      have e : isIntV x = false := by
        cases x with
        | int i => exact absurd hk.notInt (by intro z; cases z)
        | _ => rfl
      rw [e] at q
      exact iteF ⟨_, rfl, _, _, _, _, _, rfl, .ty _, hk, kit_int _, _, rfl, iteT q⟩

theorem h_is_count (D : Df K mg "is_count" s_is_count) (his_integer : Has P w K mg base CX0 "is_integer" 1 ["value"] (spIsInt K)) : Has P w K mg base CX0 "is_count" 2 ["value"] (spIsCount K) := by
  refine D.has sc_is_count (fun vs H Q E h => ?_) (fun kV doc pm an cdv ct us hl => match us, hl with | [_], _ => rfl) (fun f cdv A outer s H vs Q E gd hr h => ?_)
  · obtain ⟨x, k, rfl, _⟩ := h
    rfl
  · obtain ⟨x, k, rfl, hk, q⟩ := h
    refine ⟨_, (pss_one
 (ps_ret (pe_and (pe_callH his_integer gd (hr.mono (by decide)) pass0 (pa_cons (pv 0) pa_nil)) (pe_one (pe_cmpR op_ge (pv 0) pe_int (nomark _)))))), ?_⟩
    refine ⟨_, rfl, _, _, rfl, hk, _, rfl, ?_⟩
    cases h1 : isIntV x with
    | true =>
      cases x with
      | int i =>
        refine iteT ⟨_, rfl, _, _, rfl, rfl, ?_⟩
        have e : isCountV (.int i) = decide (0 ≤ i) := by show (isIntV (.int i) && decide (0 ≤ i)) = _; rw [h1, Bool.true_and]
        rw [e] at q
        exact q
      | _ => exact absurd h1 Bool.false_ne_true
    | false =>
      have e : isCountV x = false := by
        cases x with
        | int i => show (isIntV (.int i) && decide (0 ≤ i)) = _; rw [h1, Bool.false_and]
        | _ => rfl
      rw [e] at q
      exact iteF q

end
end K11
namespace K11
open PySem PySem.Spec PyProof.Rows L2 GL
/-- no text, no tuple of great length -/
def Mild : PyData → Prop
  | .str y => y.length ≤ 1000
  | .tuple ds => ds.length ≤ 1000 ∧ ∀ d ∈ ds, ∀ y, d = .str y → y.length ≤ 1000
  | _ => True
def spLet (K : PySem.W.Frag) : Sp := fun vs H Q _ => ∃ x d, vs = [x] ∧ Dp K H x d ∧ (∀ y, d = .str y → y.length ≤ 1000) ∧ Q (.bl (isLetD d)) H
def spCheckG (C : Addr) (U : Bool → Addr) : Sp := fun vs H Q _ => ∃ g t, vs = [.ref g] ∧ GridAt C U H g t ∧ Q .non H
def spIsTurn (K : PySem.W.Frag) (C : Addr) (U : Bool → Addr) : Sp := fun vs H Q _ => ∃ g t x d, vs = [.ref g, x] ∧ GridAt C U H g t ∧ Dp K H x d ∧ Q (.bl (isTurnD t d)) H
def spIsItem (K : PySem.W.Frag) (C : Addr) (U : Bool → Addr) : Sp := fun vs H Q _ => ∃ g t x d, vs = [.ref g, x] ∧ GridAt C U H g t ∧ Dp K H x d ∧ Mild d ∧ Q (.bl (isItemD t d)) H
def spIsRow (K : PySem.W.Frag) (C : Addr) (U : Bool → Addr) : Sp := fun vs H Q _ => ∃ g t x r, vs = [.ref g, x, .int 2] ∧ GridAt C U H g t ∧ Dp K H x (rowD r) ∧ RowOk t r ∧ ∀ H', Same H H' → Q (.bl true) H'
theorem letters_mem (c : Nat) : decide (c ∈ (("abcdefghijklmnopqrstuvwxyz" : Str)).cps.toList) = (decide (97 ≤ c) && decide (c ≤ 122)) := by
  have e : (("abcdefghijklmnopqrstuvwxyz" : Str)).cps.toList = [97, 98, 99, 100, 101, 102, 103, 104, 105, 106, 107, 108, 109, 110, 111, 112, 113, 114, 115, 116, 117, 118, 119, 120, 121, 122] := by decide +kernel
  rw [e, Bool.eq_iff_iff]
  simp only [List.mem_cons, List.not_mem_nil, or_false, decide_eq_true_eq, Bool.and_eq_true]
  omega
theorem count_not {K : PySem.W.Frag} {H : Hp} {x : V} {d : PyData} {t : Bool} (h : Dp K H x d) (c : isCountV x = false) : isTurnD t d = false := by
  cases h with
  | int i => show (isCountV (.int i) && _) = false; rw [c, Bool.false_and]
  | _ => rfl
theorem count_is {K : PySem.W.Frag} {H : Hp} {x : V} {d : PyData} {t : Bool} (h : Dp K H x d) (c : isCountV x = true) : ∃ i, x = .int i ∧ d = .int i ∧ isTurnD t d = decide (i < (num t : Int)) := by
  cases h with
  | int i => exact ⟨i, rfl, rfl, by show (isCountV (.int i) && _) = _; rw [c, Bool.true_and]⟩
  | _ => cases (show false = true from c)
theorem item_not {t : Bool} {ds : List PyData} (h : ds.length ≠ 2) : isItemD t (.tuple ds) = false := by
  match ds, h with
  | [], _ => rfl
  | [_], _ => rfl
  | [_, _], h => exact absurd rfl h
  | _ :: _ :: _ :: _, _ => rfl
section
variable {P : Program} {w : World} {K : PySem.W.Frag} {mg : Str → Option Value} {base : Heap}
variable {aG dU C CR : Addr} {U : Bool → Addr} {us : Bool → List Addr}
theorem h_is_letter (T : Txt K mg aG dU C CR) (D : Df K mg "is_letter" s_is_letter) : Has P w K mg base CX0 "is_letter" 1 ["value"] (spLet K) := by
  refine D.has sc_is_letter (fun vs H Q E h => ?_) (fun kV doc pm an cdv ct us hl => match us, hl with | [_], _ => rfl) (fun f cdv A outer s H vs Q E gd hr h => ?_)
  · obtain ⟨x, d, rfl, _⟩ := h
    rfl
  · obtain ⟨x, d, rfl, hx, short, q⟩ := h
    refine ⟨_, (pss_one
 (ps_ret (pe_and (pe_callB call_isi (by exact rfl) T.zisinstance (by decide +kernel) (pa_cons (pv 0) (pa_cons (pe_bltn (v := .ty "str") (by exact rfl) T.zstr (by decide +kernel) rfl) pa_nil))) (pe_and (pe_cmpR op_eq (pe_callB call_len_str (by exact rfl) T.zlen PySem.boot_len (pa_cons (pv 0) pa_nil)) pe_int (nomark _)) (pe_one (pe_cmpR op_in_sign (pv 0) (pe_globV T.gLETTERS) (by rfl))))))), ?_⟩
    refine ⟨_, rfl, _, _, _, _, _, rfl, .ty _, dOf hx, kit_str _, _, rfl, ?_⟩
    cases d with
    | str y =>
      obtain rfl := dStr hx
      refine iteT ⟨_, rfl, _, rfl, Nat.le_trans (short y rfl) (by rw [sizeLine_eq]; decide), rfl, _, rfl, ?_⟩
      refine ite2 (fun c1 => ?_) (fun c1 => ?_)
      · have l1 : y.length = 1 := by
          have := of_decide_eq_true c1
          injection this with this
          omega
        obtain ⟨c, rfl⟩ := GL.one_sign l1
        refine ⟨_, rfl, _, _, rfl, rfl, ?_⟩
        have e : isLetD (.str ⟨#[c]⟩) = (decide (97 ≤ c) && decide (c ≤ 122)) := by
          show (decide (1 = 1) && ([c].all fun c => decide (97 ≤ c) && decide (c ≤ 122))) = _
          simp
        rw [e] at q
        rw [letters_mem]
        exact q
      · have e : isLetD (.str y) = false := by
          show (decide (y.length = 1) && _) = false
          rw [decide_eq_false (fun z => c1 (decide_eq_true (by rw [z]; rfl))), Bool.false_and]
        rw [e] at q
        exact q
    | _ => exact iteF q
theorem h_check_grid (T : Txt K mg aG dU C CR) (c : GCls K C) (i : GIs K C) (D : Df K mg "_check_grid" s__check_grid) : Has P w K mg base CX0 "_check_grid" 1 ["grid"] (spCheckG C U) := by
  refine D.has sc__check_grid (fun vs H Q E h => ?_) (fun kV doc pm an cdv ct us hl => match us, hl with | [_], _ => rfl) (fun f cdv A outer s H vs Q E gd hr h => ?_)
  · obtain ⟨g, t, rfl, _⟩ := h
    rfl
  · obtain ⟨g, t, rfl, ⟨dg, eg⟩, q⟩ := h
    refine ⟨_, (pss_one
 (ps_if (pt_not (pt_val (pe_callB call_isi (by exact rfl) T.zisinstance (by decide +kernel) (pa_cons (pv 0) (pa_cons (pe_globV T.gGrid) pa_nil))))) (pss_one
 ps_never) pss_nil)), ?_⟩
    exact ⟨_, rfl, _, _, _, _, _, rfl, .own _, i.ty c.cls eg, kit_self, _, rfl, (iteF q : if (!true) = true then _ else _)⟩
theorem h_is_turn (c : GCls K C) (hU : Uni K w aG dU U us) (T : Txt K mg aG dU C CR) (D : Df K mg "is_turn" s_is_turn) (his_count : Has P w K mg base CX0 "is_count" 2 ["value"] (spIsCount K)) : Has P w K mg base CX0 "is_turn" 3 ["grid", "value"] (spIsTurn K C U) := by
  refine D.has sc_is_turn (fun vs H Q E h => ?_) (fun kV doc pm an cdv ct us hl => match us, hl with | [_, _], _ => rfl) (fun f cdv A outer s H vs Q E gd hr h => ?_)
  · obtain ⟨g, t, x, d, rfl, _⟩ := h
    rfl
  · obtain ⟨g, t, x, d, rfl, ⟨dg, eg⟩, hx, q⟩ := h
    refine ⟨_, (pss_one
 (ps_ret (pe_and (pe_callH his_count gd (hr.mono (by decide)) pass0 (pa_cons (pv 1) pa_nil)) (pe_one (pe_cmpR op_lt (pv 1) (pe_callB call_len_seq (by exact rfl) T.zlen PySem.boot_len (pa_cons (pe_fld (pv 0) rfl) pa_nil)) (nomark _)))))), ?_⟩
    refine ⟨_, rfl, x, _, rfl, dOf hx, _, rfl, ?_⟩
    cases e : isCountV x with
    | false =>
      rw [count_not hx e] at q
      exact iteF q
    | true =>
      obtain ⟨i, rfl, rfl, e2⟩ := count_is (t := t) hx e
      rw [e2] at q
      refine iteT ⟨_, rfl, _, rfl, _, _, _, _, _, rfl, eg, c.cls, c.units, gF_units, U t, _, rfl, .inr (hU.tup t _), ?_⟩
      rw [List.length_map, hU.len t]
      exact ⟨_, _, rfl, rfl, q⟩
theorem h_is_item (T : Txt K mg aG dU C CR) (D : Df K mg "is_item" s_is_item) (h_check_grid : Has P w K mg base CX0 "_check_grid" 1 ["grid"] (spCheckG C U)) (his_letter : Has P w K mg base CX0 "is_letter" 1 ["value"] (spLet K)) (his_turn : Has P w K mg base CX0 "is_turn" 3 ["grid", "value"] (spIsTurn K C U)) :
    Has P w K mg base CX0 "is_item" 4 ["grid", "value"] (spIsItem K C U) := by
  refine D.has sc_is_item (fun vs H Q E h => ?_) (fun kV doc pm an cdv ct us hl => match us, hl with | [_, _], _ => rfl) (fun f cdv A outer s H vs Q E gd hr h => ?_)
  · obtain ⟨g, t, x, d, rfl, _⟩ := h
    rfl
  · obtain ⟨g, t, x, d, rfl, hg, hx, mild, q⟩ := h
    refine ⟨_, (pss_cons
 (ps_expr (pe_callH h_check_grid gd (hr.mono (by decide)) pass0 (pa_cons (pv 0) pa_nil)))
 (pss_cons
 (ps_if (PW.pt (pw_or (pt_not (pt_val (pe_callB call_isi (by exact rfl) T.zisinstance (by decide +kernel) (pa_cons (pv 1) (pa_cons (pe_bltn (v := .ty "tuple") (by exact rfl) T.ztuple (by decide +kernel) rfl) pa_nil))))) (pw_or1 (pt_cmpR op_ne (pe_callB call_len_seq (by exact rfl) T.zlen PySem.boot_len (pa_cons (pv 1) pa_nil)) pe_int (nomark _))))) (pss_one
 (ps_ret pe_bl)) pss_nil)
 (pss_one
 (ps_ret (pe_and (pe_callH his_letter gd (hr.mono (by decide)) pass0 (pa_cons (pe_ix ix_tup (pv 1) pe_int (fun _ _ => rfl)) pa_nil)) (pe_one (pe_callH his_turn gd (hr.mono (by decide)) pass0 (pa_cons (pv 0) (pa_cons (pe_ix ix_tup (pv 1) pe_int (fun _ _ => rfl)) pa_nil))))))))), ?_⟩
    refine ⟨_, rfl, g, t, rfl, hg, ?_⟩
    refine ⟨_, rfl, _, _, _, _, _, rfl, .ty _, dOf hx, kit_tup _, _, rfl, ?_⟩
    cases d with
    | tuple ds =>
      obtain ⟨a, xs, rfl, hs, l⟩ := dTup hx
      have ln := dLen l
      refine iteF ⟨_, rfl, a, xs, rfl, .inr hs, rfl, _, rfl, ?_⟩
      by_cases h2 : ds.length = 2
      · match ds, h2, l with
        | [d1, d2], _, l =>
          cases l with
          | cons l1 l2 => cases l2 with
            | cons l3 l4 =>
              cases l4
              rename_i u v
              have e : isItemD t (.tuple [d1, d2]) = (isLetD d1 && isTurnD t d2) := rfl
              rw [e] at q
              refine iteF ⟨_, rfl, a, _, _, u, rfl, rfl, hs, atI_nat (j := 0) rfl, u, d1, rfl, l1, (fun y hy => mild.2 d1 (by simp) y hy), _, rfl, ?_⟩
              cases b : isLetD d1 with
              | true =>
                rw [b, Bool.true_and] at q
                exact iteT ⟨_, rfl, _, rfl, a, _, _, v, rfl, rfl, hs, atI_nat (j := 1) rfl, g, t, v, d2, rfl, hg, l3, q⟩
              | false =>
                rw [b, Bool.false_and] at q
                exact iteF q
      · rw [item_not h2] at q
        have z : (!decide (V.int (xs.length : Int) = V.int 2)) = true := by rw [decide_eq_false (fun z => h2 (by injection z with z; omega))]; rfl
        show if (!decide (V.int (xs.length : Int) = V.int 2)) = true then _ else _
        rw [z]
        exact iteT q
    | _ => exact iteT (iteT q)
end
end K11
namespace K11
open PySem PySem.Spec PyProof.Rows L2 GL
theorem same_rfl {H : Hp} : Same H H := fun _ _ e => e
/-- the points of some directions from u on -/
def path (t : Bool) : Int × Int → List Int → List (Int × Int)
  | u, [] => [u]
  | u, n :: r => u :: path t (padd u (uni t n)) r
def spTrail (K : PySem.W.Frag) (C : Addr) (U : Bool → Addr) : Sp := fun vs H Q _ => ∃ g t l ns, vs = [.ref g, .ref l] ∧ GridAt C U H g t ∧ SqL K H l (ns.map V.int) ∧ (∀ n ∈ ns, 0 ≤ n ∧ n < (num t : Int)) ∧ ns.length ≤ 1000 ∧
  ∀ D H', Same H H' → Dp K H' (.ref D) (.list ((path t (0, 0) ns).map ptD)) → Q (.ref D) H'
theorem path_snoc (t : Bool) : ∀ (ns : List Int) (u : Int × Int) (n : Int), path t u (ns ++ [n]) = path t u ns ++ [padd ((path t u ns).getLast?.getD (0, 0)) (uni t n)]
  | [], u, n => rfl
  | m :: r, u, n => by
    show u :: path t (padd u (uni t m)) (r ++ [n]) = _
    rw [path_snoc t r]
    have ne : path t (padd u (uni t m)) r ≠ [] := by cases r <;> exact List.cons_ne_nil _ _
    have e : (u :: path t (padd u (uni t m)) r).getLast? = (path t (padd u (uni t m)) r).getLast? := by
      cases h : path t (padd u (uni t m)) r with
      | nil => exact absurd h ne
      | cons a b => rfl
    rw [show path t u (m :: r) = u :: path t (padd u (uni t m)) r from rfl, e]
    rfl
theorem path_len (t : Bool) : ∀ (ns : List Int) (u : Int × Int), (path t u ns).length = ns.length + 1
  | [], _ => rfl
  | n :: r, u => by show (path t _ r).length + 1 = _; rw [path_len t r]; rfl
theorem path_last (t : Bool) (ns : List Int) (u : Int × Int) : ∃ v, (path t u ns).getLast? = some v ∧ (path t u ns)[ns.length]? = some v := by
  have l := path_len t ns u
  have h : ns.length < (path t u ns).length := by omega
  refine ⟨(path t u ns)[ns.length], ?_, List.getElem?_eq_getElem h⟩
  rw [List.getLast?_eq_getElem?, l]
  exact List.getElem?_eq_getElem h
section
variable {P : Program} {w : World} {K : PySem.W.Frag} {mg : Str → Option Value} {base : Heap}
variable {aG dU C CR : Addr} {U : Bool → Addr} {us : Bool → List Addr}
theorem h_is_row (T : Txt K mg aG dU C CR) (D : Df K mg "is_row" s_is_row) (h_check_grid : Has P w K mg base CX0 "_check_grid" 1 ["grid"] (spCheckG C U)) (his_count : Has P w K mg base CX0 "is_count" 2 ["value"] (spIsCount K)) (his_item : Has P w K mg base CX0 "is_item" 4 ["grid", "value"] (spIsItem K C U)) :
    HasK P w K mg base CX0 "is_row" 5 ["grid", "value", "least"] 2 ["least"] (spIsRow K C U) := by
  refine D.hasK sc_is_row (fun vs H Q E h => ?_) (fun kV doc pm an cdv ct us ws h1 h2 => match us, ws, h1, h2 with | [_, _], [_], _, _ => rfl) (fun f cdv A outer s H vs Q E gd hr h => ?_)
  · obtain ⟨g, t, x, r, rfl, _⟩ := h
    rfl
  · obtain ⟨g, t, x, r, rfl, hg, hx, ok, q⟩ := h
    refine ⟨_, (pss_cons
 (ps_expr (pe_callH h_check_grid gd (hr.mono (by decide)) pass0 (pa_cons (pv 0) pa_nil)))
 (pss_cons
 (ps_if (pt_not (pt_val (pe_callH his_count gd (hr.mono (by decide)) pass0 (pa_cons (pv 2) pa_nil)))) (pss_one
 ps_never) pss_nil)
 (pss_cons
 (ps_if (PW.pt (pw_or (pt_not (pt_val (pe_callB call_isi (by exact rfl) T.zisinstance (by decide +kernel) (pa_cons (pv 1) (pa_cons (pe_bltn (v := .ty "tuple") (by exact rfl) T.ztuple (by decide +kernel) rfl) pa_nil))))) (pw_or (pt_cmpR op_lt (pe_callB call_len_seq (by exact rfl) T.zlen PySem.boot_len (pa_cons (pv 1) pa_nil)) (pv 2) (nomark _)) (pw_or1 (pt_cmpR op_gt (pe_callB call_len_seq (by exact rfl) T.zlen PySem.boot_len (pa_cons (pv 1) pa_nil)) (pe_globV T.gMAX_ITEMS) (nomark _)))))) (pss_one
 (ps_ret pe_bl)) pss_nil)
 (pss_one
 (ps_ret (pe_callB (cr_all rfl) (by exact rfl) T.zall (by decide +kernel) (pa_cons (pe_lc (own := [("item", 3)]) (g := gName 3) (tt := tYes) (by rfl) sc_is_row.nd (pi_tup (pv 1)) (blkOk_by (own := [("item", 3)]) (N := N_is_row) (sc := defScope s_is_row) (by decide +kernel)) (fun _ _ _ _ _ => pg_name (i := 3) sc_is_row.nd rfl (Or.inl rfl)) (fun _ _ _ _ _ => pts_nil) (fun _ _ _ _ _ => (pe_callH his_item gd (hr.mono (by decide)) pass0 (pa_cons (pv 0) (pa_cons (pv 3) pa_nil))))) pa_nil))))))), ?_⟩
    obtain ⟨a, xs, rfl, hs, l⟩ := dTup hx
    have ln := rowLen l
    have l2 := ok.two
    have l12 := ok.most
    refine ⟨_, rfl, g, t, rfl, hg, ?_⟩
    refine ⟨_, rfl, _, _, rfl, .int, _, rfl, ?_⟩
    rw [show isCountV (.int 2) = true by rw [show isCountV (.int 2) = (isIntV (.int 2) && decide ((0 : Int) ≤ 2)) from rfl, short_of (by decide)]; rfl]
    refine (iteF ?_ : if (!true) = true then _ else _)
    refine ⟨_, rfl, _, _, _, _, _, rfl, .ty _, tup_of hs, kit_tup _, _, rfl, iteF ?_⟩
    refine ⟨_, rfl, a, xs, rfl, .inr hs, _, rfl, _, _, rfl, rfl, _, rfl, ?_⟩
    rw [decide_eq_false (show ¬ (xs.length : Int) < 2 by omega)]
    refine iteF ⟨_, rfl, a, xs, rfl, .inr hs, _, _, rfl, rfl, _, rfl, ?_⟩
    rw [decide_eq_false (show ¬ (12 : Int) < (xs.length : Int) by omega)]
    refine iteF ?_
    refine ⟨_, rfl, a, rfl, ⟨_, hs⟩, fun D hD => lc_tup (a := a) (xs := xs) (fun i' H' => Same H H' ∧ H' D = some (.lst ((List.replicate i' true).map V.bl))) ⟨Same.new hD, upd_same⟩ (fun i' H' _ h => sqT_same hs h.1) ?_ ?_⟩
    · rintro i' x H' hx ⟨s', hacc⟩
      obtain ⟨it, q', hit, rfl, hq⟩ := rowAt l hx
      have iok := ok.all it (List.mem_of_getElem? hit)
      refine ⟨rfl, ?_⟩
      simp only [tYes, if_true]
      refine ⟨_, rfl, _, rfl, g, t, _, itemD it, rfl, hg.same s', itemDp (sqT_same hq s'), ⟨by show 2 ≤ 1000; decide, fun d hd y e => ?_⟩, ?_⟩
      · simp only [List.mem_cons, List.not_mem_nil, or_false] at hd
        rcases hd with rfl | rfl
        · cases e
          have z := iok.l
          have z2 : it.1.length = 1 := of_decide_eq_true (Bool.and_eq_true_iff.mp z).1
          omega
        · cases e
      rw [item_ok iok]
      refine ⟨_, hacc, ?_, Same.over s' hD _, ?_⟩
      · have lt := (List.getElem?_eq_some_iff.mp hx).1
        rw [List.length_map, List.length_replicate, sizeLine_eq]
        omega
      · rw [upd_same, List.replicate_succ', List.map_append]
        rfl
    rintro Hc ⟨sc, hacc⟩
    refine ⟨D, List.replicate xs.length true, rfl, SqL.of hacc, ?_⟩
    rw [show (List.replicate xs.length true).all id = true by simp]
    exact q _ sc
theorem unit_at (hU : Uni K w aG dU U us) {t : Bool} (n : Int) : ∃ i : Addr, (∀ H, PAt K H i (uni t n)) ∧ atI ((us t).map V.ref) (n % (num t : Int)) = some (.ref i) := by
  have h1 := Int.emod_nonneg n (Int.ne_of_gt (num_pos (t := t)))
  have h2 := Int.emod_lt_of_pos n (num_pos (t := t))
  obtain ⟨j, hj⟩ : ∃ j : Nat, n % (num t : Int) = (j : Int) := ⟨(n % (num t : Int)).toNat, by omega⟩
  have e := uni_at (t := t) n
  rw [hj] at e ⊢
  have l : j < (us t).length := by rw [hU.len]; omega
  refine ⟨(us t)[j], hU.pt t j _ _ (List.getElem?_eq_getElem l) e, atI_nat ?_⟩
  rw [List.getElem?_map, List.getElem?_eq_getElem l]
  rfl

theorem h_plus (D : Df K mg "plus" s_plus) : Has P w K mg base CX0 "plus" 1 ["one", "other"] (spPlus K) := by
  refine D.has sc_plus (fun vs H Q E h => ?_) (fun kV doc pm an cdv ct us hl => match us, hl with | [_, _], _ => rfl) (fun f cdv A outer s H vs Q E gd hr h => ?_)
  · obtain ⟨a, b, u, v, rfl, _⟩ := h
    rfl
  · obtain ⟨a, b, u, v, rfl, pu, pv', k⟩ := h
    refine ⟨_, (pss_one
 (ps_ret (pe_tup (pa_cons (pe_op op_add (pe_ix ix_tup (pv 0) pe_int (fun _ _ => rfl)) (pe_ix ix_tup (pv 1) pe_int (fun _ _ => rfl))) (pa_cons (pe_op op_add (pe_ix ix_tup (pv 0) pe_int (fun _ _ => rfl)) (pe_ix ix_tup (pv 1) pe_int (fun _ _ => rfl))) pa_nil))))), ?_⟩
    exact ⟨_, rfl, _, _, _, _, rfl, rfl, pu, atI_nat (j := 0) rfl, _, rfl, _, _, _, _, rfl, rfl, pv', atI_nat (j := 0) rfl, _, _, rfl, rfl, _, rfl, _, _, _, _, rfl, rfl, pu, atI_nat (j := 1) rfl, _, rfl, _, _, _, _, rfl, rfl, pv', atI_nat (j := 1) rfl, _, _, rfl, rfl, by show 2 ≤ sizeLine; decide, fun p hp => k p hp⟩
theorem h_trail (c : GCls K C) (hU : Uni K w aG dU U us) (D : Df K mg "trail" s_trail) (hplus : Has P w K mg base CX0 "plus" 1 ["one", "other"] (spPlus K)) : Has P w K mg base CX0 "trail" 2 ["grid", "directions"] (spTrail K C U) := by
  refine D.has sc_trail (fun vs H Q E h => ?_) (fun kV doc pm an cdv ct us hl => match us, hl with | [_, _], _ => rfl) (fun f cdv A outer s H vs Q E gd hr h => ?_)
  · obtain ⟨g, t, l, ns, rfl, _⟩ := h
    rfl
  · obtain ⟨g, t, l, ns, rfl, hg, hl, ok, few, k⟩ := h
    refine ⟨_, (pss_cons
 (ps_set (i := 2) sc_trail.nd rfl (Or.inl rfl) (pe_lst (pa_cons (pe_tup (pa_cons pe_int (pa_cons pe_int pa_nil))) pa_nil)))
 (pss_cons
 (ps_for PassesOwn.never rfl (pi_list (pv 1)) (pg_name (i := 3) sc_trail.nd rfl (Or.inl rfl)) (pss_one
 (ps_expr (pe_bm PySem.F.plainAttrs_list PySem.F.slot_list_append PySem.F.type_list_append mt_append (pv 2) (pa_cons (pe_callH hplus gd (hr.mono (by decide)) pass0 (pa_cons (pe_ix ix_list (pv 2) (pe_un un_neg pe_int) (fun _ _ => rfl)) (pa_cons (pe_ix ix_tup (pe_fld (pv 0) rfl) (pv 3) (fun _ _ => rfl)) pa_nil))) pa_nil)))))
 (pss_one
 (ps_ret (pv 2))))), ?_⟩
    refine ⟨by show 2 ≤ sizeLine; decide, fun p0 n0 => ⟨by show 1 ≤ sizeLine; decide, fun L nL => ?_⟩⟩
    have P0 : PAt K (upd H p0 (.tup [.int 0, .int 0])) p0 (0, 0) := PAt.of upd_same
    have s0 := Same.new (o := .tup [.int 0, .int 0]) n0
    generalize upd H p0 (.tup [.int 0, .int 0]) = H1 at *
    have A0 : Grow K H1 L [ptD (0, 0)] (upd H1 L (.lst [.ref p0])) := Grow.from nL (.cons P0.dp .nil)
    have hl1 := sqL_same hl s0
    have hg1 := hg.same s0
    refine ⟨_, rfl, l, rfl, ⟨_, sqL_same hl1 A0.same⟩, for_list (a := l) (xs := ns.map V.int) (fun i σ' H' => ∃ v, σ' = [some (.ref g), some (.ref l), some (.ref L), v] ∧ Grow K H1 L ((path t (0, 0) (ns.take i)).map ptD) H') ⟨none, rfl, A0⟩ (fun i σ' H' _ ⟨v, e, A⟩ => sqL_same hl1 A.same) ?_ ?_⟩
    · rintro i x _ H' hx ⟨v, rfl, A⟩
      obtain ⟨n, hn, rfl⟩ : ∃ n, ns[i]? = some n ∧ x = .int n := by
        rw [List.getElem?_map] at hx
        cases e : ns[i]? with
        | none => rw [e] at hx; cases hx
        | some y => rw [e] at hx; cases hx; exact ⟨y, rfl, rfl⟩
      obtain ⟨n0', n1'⟩ := ok n (List.mem_of_getElem? hn)
      obtain ⟨xs, eL, la⟩ := A.ex
      have li : i < ns.length := (List.getElem?_eq_some_iff.mp hn).1
      have lt : (ns.take i).length = i := by rw [List.length_take]; omega
      obtain ⟨last, hlast, hidx⟩ := path_last t (ns.take i) (0, 0)
      have lx : xs.length = i + 1 := by rw [dLen la, List.length_map, path_len, lt]
      rw [lt] at hidx
      obtain ⟨y, hy, dy⟩ := dAt' la (i := i) (d := ptD last) (by rw [List.getElem?_map, hidx]; rfl)
      obtain ⟨qa, rfl, pq⟩ : ∃ q, y = .ref q ∧ PAt K (wo L H') q last := by
        obtain ⟨a, zs, rfl, hs, l2⟩ := dTup dy
        cases l2 with
        | cons z1 z2 => cases z1; cases z2 with
          | cons z3 z4 => cases z3; cases z4; exact ⟨a, rfl, hs⟩
      have pq' := pq.same wo_same
      obtain ⟨dg, eg⟩ := hg1.same A.same
      obtain ⟨iu, hu1, hu2⟩ := unit_at hU (t := t) n
      rw [Int.emod_eq_of_lt n0' n1'] at hu2
      have neg : atI xs (-1) = some (.ref qa) := atI_m1 lx hy
      refine ⟨_, rfl, .inl ⟨rfl, _, SqL.of eL⟩, ?_⟩
      refine ⟨_, rfl, _, rfl, L, _, _, _, rfl, rfl, SqL.of eL, neg, ?_⟩
      refine ⟨_, rfl, _, _, _, _, _, rfl, eg, c.cls, c.units, gF_units, _, rfl, U t, _, _, _, rfl, rfl, hU.tup t _, hu2, ?_⟩
      refine ⟨qa, iu, _, _, rfl, pq', hu1 _, fun p np => ?_⟩
      have eL' := Same.new (o := .tup [.int (padd last (uni t n)).1, .int (padd last (uni t n)).2]) np _ _ eL
      obtain ⟨A1, e1⟩ := A.new (u := .tup [.int (padd last (uni t n)).1, .int (padd last (uni t n)).2]) np
      refine ⟨L, _, _, rfl, rfl, eL', by rw [lx, sizeLine_eq]; omega, _, rfl, ?_⟩
      have A2 := A1.push eL' (PAt.of (u := padd last (uni t n)) e1).dp
      rw [show (path t (0, 0) (ns.take (i + 1))).map ptD = (path t (0, 0) (ns.take i)).map ptD ++ [ptD (padd last (uni t n))] by
        rw [List.take_add_one, hn]
        show (path t (0, 0) (ns.take i ++ [n])).map ptD = _
        rw [path_snoc, hlast, List.map_append]
        rfl]
      exact A2
    · rintro _ H' ⟨v, rfl, A⟩
      rw [List.length_map, List.take_length] at A
      exact ⟨_, rfl, k L H' (s0.trans A.same) A.dp⟩
end
end K11
namespace K11
open PySem PySem.Spec PyProof.Rows L2 GL
def Lets (r : RowT) (ys : List Str) : Prop := ys.Perm (setS (r.map (·.1))) ∧ sortedS ys = true
def starts (t : Bool) (r : RowT) : List (Int × Int) := (path t (0, 0) (r.map (·.2))).dropLast
def sumOf (t : Bool) (r : RowT) : Int × Int := (path t (0, 0) (r.map (·.2))).getLast?.getD (0, 0)
def rF (g : Addr) (x l s e : V) : List (Str × V) := [("grid", .ref g), ("row", x), ("letters", l), ("starts", s), ("end", e)]
structure RCls (K : PySem.W.Frag) (D : Addr) : Prop where
  cls : Cls K D
  grid : NoAttr K D "grid"
  row : NoAttr K D "row"
  letters : NoAttr K D "letters"
  starts : NoAttr K D "starts"
  end_ : NoAttr K D "end"
def RuleAt (K : PySem.W.Frag) (C : Addr) (U : Bool → Addr) (CR : Addr) (H : Hp) (p : Addr) (t : Bool) (r : RowT) : Prop := ∃ dx g x l s e ys, H p = some (.ins CR dx (rF g x l s e)) ∧ GridAt C U H g t ∧ RowOk t r ∧ Dp K H x (rowD r) ∧ Lets r ys ∧ Dp K H l (.tuple (ys.map PyData.str)) ∧ Dp K H s (.tuple ((starts t r).map ptD)) ∧ Dp K H e (ptD (sumOf t r))
def spRInit (K : PySem.W.Frag) (C : Addr) (U : Bool → Addr) (CR : Addr) : Sp := fun vs H Q _ => ∃ p dx g t x r, vs = [.ref p, .ref g, x] ∧ H p = some (.ins CR dx []) ∧ GridAt C U H g t ∧ Dp K H x (rowD r) ∧ RowOk t r ∧ ∀ H', (∀ b o, b ≠ p → H b = some o → H' b = some o) → RuleAt K C U CR H' p t r → Q .non H'
section
variable {P : Program} {w : World} {K : PySem.W.Frag} {mg : Str → Option Value} {base : Heap}
variable {aG dU C CR : Addr} {U : Bool → Addr} {us : Bool → List Addr}
theorem RuleAt.same {H H' : Hp} {p : Addr} {t : Bool} {r : RowT} (h : RuleAt K C U CR H p t r) (s : Same H H') : RuleAt K C U CR H' p t r := by
  obtain ⟨dx, g, x, l, st, e, ys, a1, a2, a3, a4, a5, a6, a7, a8⟩ := h
  exact ⟨dx, g, x, l, st, e, ys, s _ _ a1, a2.same s, a3, dp_same s a4, a5, dp_same s a6, dp_same s a7, dp_same s a8⟩
theorem h_rinit (T : Txt K mg aG dU C CR) (rc : RCls K CR) (D : Dc K CR "Rule.__init__" s_Rule_WinitW) (h_check_grid : Has P w K mg base CX0 "_check_grid" 1 ["grid"] (spCheckG C U)) (his_row : HasK P w K mg base CX0 "is_row" 5 ["grid", "value", "least"] 2 ["least"] (spIsRow K C U)) (htrail : Has P w K mg base CX0 "trail" 2 ["grid", "directions"] (spTrail K C U)) (m : mg "Rule" = some (.ref CR)) :
    HasG P w K mg base "Rule" CR 6 ["self", "grid", "items"] (spRInit K C U CR) := by
  refine D.hasG m sc_Rule_WinitW (fun vs H Q E h => ?_) (fun kV doc pm an cdv ct us hl => match us, hl with | [_, _, _], _ => rfl) (fun f cdv A outer s H vs Q E gd hr h => ?_)
  · obtain ⟨p, dx, g, t, x, r, rfl, _⟩ := h
    rfl
  · obtain ⟨p, dx, g, t, x, r, rfl, hp, hg, hx, ok, k⟩ := h
    refine ⟨_, (pss_cons
 (ps_expr (pe_callH h_check_grid gd (hr.mono (by decide)) pass0 (pa_cons (pv 1) pa_nil)))
 (pss_cons
 (ps_if (pt_not (pt_val (pe_callKH his_row gd (hr.mono (by decide)) pass0 (pa_cons (pv 1) (pa_cons (pv 2) pa_nil)) (pk_cons (pe_globV T.gMIN_ITEMS) pk_nil)))) (pss_one
 ps_never) pss_nil)
 (pss_cons
 (ps_set (i := 3) sc_Rule_WinitW.nd rfl (Or.inl rfl) (pe_callH htrail gd (hr.mono (by decide)) pass0 (pa_cons (pv 1) (pa_cons (pe_lc (own := [("letter", 4), ("turn", 5)]) (g := (gTup K 2 (gCons (gName 4) (gCons (gName 5) gNil)))) (tt := tYes) (by rfl) sc_Rule_WinitW.nd (pi_tup (pv 2)) (blkOk_by (own := [("letter", 4), ("turn", 5)]) (N := N_Rule_WinitW) (sc := defScope s_Rule_WinitW) (by decide +kernel)) (fun _ _ _ _ _ => (pg_tupK (K0 := K) (n := 2) (by exact rfl) (by rfl) (pgs_cons (pg_name (i := 4) sc_Rule_WinitW.nd rfl (Or.inl rfl)) (pgs_cons (pg_name (i := 5) sc_Rule_WinitW.nd rfl (Or.inl rfl)) pgs_nil)))) (fun _ _ _ _ _ => pts_nil) (fun _ _ _ _ _ => (pv 5))) pa_nil))))
 (pss_cons
 (ps_fld (pv 0) (pv 1) rfl)
 (pss_cons
 (ps_fld (pv 0) (pv 2) rfl)
 (pss_cons
 (ps_fld (pv 0) (pe_callTy call_tuple_of (by exact rfl) T.ztuple (by decide +kernel) (pa_cons (pe_callB call_sortedT (by exact rfl) T.zsorted (by decide +kernel) (pa_cons (pe_scT (own := [("letter", 4), ("turn", 5)]) (g := (gTup K 2 (gCons (gName 4) (gCons (gName 5) gNil)))) (tt := tYes) sc_Rule_WinitW.nd (pi_tup (pv 2)) (blkOk_by (own := [("letter", 4), ("turn", 5)]) (N := N_Rule_WinitW) (sc := defScope s_Rule_WinitW) (by decide +kernel)) (fun _ _ _ _ _ => (pg_tupK (K0 := K) (n := 2) (by exact rfl) (by rfl) (pgs_cons (pg_name (i := 4) sc_Rule_WinitW.nd rfl (Or.inl rfl)) (pgs_cons (pg_name (i := 5) sc_Rule_WinitW.nd rfl (Or.inl rfl)) pgs_nil)))) (fun _ _ _ _ _ => pts_nil) (fun _ _ _ _ _ => (pv 4))) pa_nil)) pa_nil)) rfl)
 (pss_cons
 (ps_fld (pv 0) (pe_callTy call_tuple_of (by exact rfl) T.ztuple (by decide +kernel) (pa_cons (pe_slice sl_list (pv 3) po_none (po_some (pe_un un_neg pe_int))) pa_nil)) rfl)
 (pss_one
 (ps_fld (pv 0) (pe_ix ix_list (pv 3) (pe_un un_neg pe_int) (fun _ _ => rfl)) rfl))))))))), ?_⟩
    obtain ⟨a, xs, rfl, hs, l⟩ := dTup hx
    have ln := rowLen l
    refine ⟨_, rfl, g, t, rfl, hg, ?_⟩
    refine ⟨_, rfl, _, rfl, rfl, rfl, g, t, _, r, rfl, hg, hx, ok, fun H1 s1 => ?_⟩
    refine ⟨_, rfl, (iteF ?_ : if (!true) = true then _ else _)⟩
    have few : r.length ≤ 1000 := Nat.le_trans ok.most (by decide)
    refine ⟨_, rfl, _, rfl, a, rfl, ⟨_, sqT_same hs s1⟩, fun D hD => lc_row (fun it => .int it.2) (sqT_same hs s1) (dps_same s1 l) few hD (fun _ _ => rfl) (fun n it H' _ _ _ Q q => ⟨_, rfl, q _ _ same_rfl (.int _)⟩) (fun H2 s2 dp => ?_)⟩
    obtain ⟨_, ys, e0, hys, lys⟩ := dLst dp
    cases e0
    have ey : ys = (r.map (·.2)).map V.int := dInts' (by rw [List.map_map]; exact lys)
    subst ey
    refine ⟨g, t, D, r.map (fun it : Str × Int => it.2), rfl, (hg.same s1).same s2, hys, ?_, by rw [List.length_map]; exact few, fun L H3 s3 dL => ?_⟩
    · intro n hn
      obtain ⟨it, hit, rfl⟩ := List.mem_map.mp hn
      exact ⟨(ok.all it hit).a, (ok.all it hit).b⟩
    have s13 := (s1.trans s2).trans s3
    have hp3 := s13 _ _ hp
    have hg3 := hg.same s13
    obtain ⟨dg, eg⟩ := id hg3
    have gp : g ≠ p := fun z => by rw [z, hp3] at eg; cases eg
    have M1 : Dp K (wo p H3) (.ref a) (rowD r) := dp_wo hp3 (dp_same s13 hx)
    have M2 := dp_wo hp3 dL
    have M3 : GridAt C U (wo p H3) g t := ⟨dg, wo_at eg gp⟩
    refine ⟨_, rfl, _, rfl, _, _, _, _, rfl, hp3, rc.cls, rc.grid, by show 0 < 1000; decide, ?_⟩
    refine ⟨_, rfl, _, rfl, _, _, _, _, rfl, upd_same, rc.cls, rc.row, by show 1 < 1000; decide, ?_⟩
    have u2 : ∀ {o1 o2 : HO}, Same (wo p H3) (upd (upd H3 p o1) p o2) := fun {o1 o2} => by
      have z := wo_under (H := upd H3 p o1) (D := p) (o := o2)
      rw [wo_upd] at z
      exact z
    obtain ⟨_, xs', e1, hs', l'⟩ := dTup M1
    cases e1
    have Su := u2 (o1 := .ins CR dx (putF "grid" (V.ref g) [])) (o2 := .ins CR dx (putF "row" (V.ref a) (putF "grid" (V.ref g) [])))
    have e5 : upd (upd H3 p (.ins CR dx (putF "grid" (V.ref g) []))) p (.ins CR dx (putF "row" (V.ref a) (putF "grid" (V.ref g) []))) p = some (.ins CR dx (putF "row" (V.ref a) (putF "grid" (V.ref g) []))) := upd_same
    have keep5 : ∀ b o, b ≠ p → H b = some o → upd (upd H3 p (.ins CR dx (putF "grid" (V.ref g) []))) p (.ins CR dx (putF "row" (V.ref a) (putF "grid" (V.ref g) []))) b = some o := fun b o n e => by rw [upd_ne n, upd_ne n]; exact s13 _ _ e
    generalize upd (upd H3 p (.ins CR dx (putF "grid" (V.ref g) []))) p (.ins CR dx (putF "row" (V.ref a) (putF "grid" (V.ref g) []))) = H5 at *
    have Mp : wo p H3 p = none := wo_D
    generalize wo p H3 = M at *
    refine ⟨_, rfl, a, rfl, ⟨_, sqT_same hs' Su⟩, fun D2 hD2 => sc_row (sqT_same hs' Su) (dps_same Su l') few hD2 (fun _ _ => rfl) (fun it H' Q q => ⟨_, rfl, q⟩) (fun H6 s6 e6 => ?_)⟩
    have l64 := setS_len (r.map (fun it : Str × Int => it.1))
    rw [List.length_map] at l64
    refine ⟨D2, _, rfl, e6, by have := ok.most; omega, fun ys p2 perm srt n2 => ?_⟩
    refine ⟨p2, _, rfl, .inl ⟨SqL.of upd_same, fun p3 n3 => ?_⟩⟩
    have s7 := s6.trans ((Same.new (o := .lst (ys.map V.str)) n2).trans (Same.new (o := .tup (ys.map V.str)) n3))
    have e7 := s7 _ _ e5
    have d7 : Dp K (upd (upd H6 p2 (.lst (ys.map V.str))) p3 (.tup (ys.map V.str))) (.ref p3) (.tuple (ys.map PyData.str)) := .tup (SqT.of upd_same) dStrs
    generalize upd (upd H6 p2 (.lst (ys.map V.str))) p3 (.tup (ys.map V.str)) = H7 at *
    have M4 := dp_wo e7 d7
    have Sm7 : Same M (wo p H7) := fun b o e => wo_at (s7 _ _ (Su _ _ e)) (fun z => by rw [z, Mp] at e; cases e)
    refine ⟨_, rfl, _, _, _, _, rfl, e7, rc.cls, rc.letters, by show 2 < 1000; decide, ?_⟩
    have F7 : Same (wo p H7) (upd H7 p (.ins CR dx (putF "letters" (V.ref p3) (putF "row" (V.ref a) (putF "grid" (V.ref g) []))))) := wo_under
    have e8 : upd H7 p (.ins CR dx (putF "letters" (V.ref p3) (putF "row" (V.ref a) (putF "grid" (V.ref g) [])))) p = some (.ins CR dx (putF "letters" (V.ref p3) (putF "row" (V.ref a) (putF "grid" (V.ref g) [])))) := upd_same
    have keep8 : ∀ b o, b ≠ p → H b = some o → upd H7 p (.ins CR dx (putF "letters" (V.ref p3) (putF "row" (V.ref a) (putF "grid" (V.ref g) [])))) b = some o := fun b o n e => by rw [upd_ne n]; exact s7 _ _ (keep5 b o n e)
    generalize upd H7 p (.ins CR dx (putF "letters" (V.ref p3) (putF "row" (V.ref a) (putF "grid" (V.ref g) [])))) = H8 at *
    have Mp7 : wo p H7 p = none := wo_D
    generalize wo p H7 = M7 at *
    replace M1 := dp_same Sm7 M1
    replace M2 := dp_same Sm7 M2
    replace M3 := M3.same Sm7
    obtain ⟨_, zs, e2, hz, lz⟩ := dLst M2
    cases e2
    have lzs : zs.length = r.length + 1 := by rw [dLen lz, List.length_map, path_len, List.length_map]
    refine ⟨_, rfl, _, rfl, _, rfl, L, zs, rfl, sqL_same hz F7, fun p4 n4 => ?_⟩
    rw [show cutV zs none (some (-1)) = zs.take r.length from cut_init lzs]
    refine ⟨p4, _, rfl, .inl ⟨SqL.of upd_same, fun p5 n5 => ?_⟩⟩
    have s9 := (Same.new (o := .lst (zs.take r.length)) n4).trans (Same.new (o := .tup (zs.take r.length)) n5)
    have e9 := s9 _ _ e8
    have M5 : Dp K M7 (.ref L) (.list ((path t (0, 0) (r.map (fun it : Str × Int => it.2))).map ptD)) := .lst hz lz
    have d9 : Dp K (upd (upd H8 p4 (.lst (zs.take r.length))) p5 (.tup (zs.take r.length))) (.ref p5) (.tuple ((starts t r).map ptD)) := by
      refine .tup (SqT.of upd_same) ?_
      have z := dps_same (F7.trans s9) (dTake r.length lz)
      rw [← List.map_take] at z
      unfold starts
      rw [List.dropLast_eq_take, path_len, List.length_map]
      exact z
    generalize upd (upd H8 p4 (.lst (zs.take r.length))) p5 (.tup (zs.take r.length)) = H9 at *
    have M6 := dp_wo e9 d9
    have Sm9 : Same M7 (wo p H9) := fun b o e => wo_at (s9 _ _ (F7 _ _ e)) (fun z => by rw [z, Mp7] at e; cases e)
    refine ⟨_, rfl, _, _, _, _, rfl, e9, rc.cls, rc.starts, by show 3 < 1000; decide, ?_⟩
    have F9 : Same (wo p H9) (upd H9 p (.ins CR dx (putF "starts" (V.ref p5) (putF "letters" (V.ref p3) (putF "row" (V.ref a) (putF "grid" (V.ref g) [])))))) := wo_under
    obtain ⟨v, hv1, hv2⟩ := path_last t (r.map (fun it : Str × Int => it.2)) (0, 0)
    rw [List.length_map] at hv2
    obtain ⟨y, hy, dy⟩ := dAt' lz (i := r.length) (d := ptD v) (by rw [List.getElem?_map, hv2]; rfl)
    refine ⟨_, rfl, _, rfl, L, _, _, _, rfl, rfl, sqL_same hz (Sm9.trans F9), atI_m1 lzs hy, ?_⟩
    refine ⟨_, rfl, _, _, _, _, rfl, upd_same, rc.cls, rc.end_, by show 4 < 1000; decide, k _ (fun b o n e => by rw [upd_ne n, upd_ne n]; exact s9 _ _ (keep8 b o n e)) ?_⟩
    have F10 : ∀ {o1 o2 : HO}, Same (wo p H9) (upd (upd H9 p o1) p o2) := fun {o1 o2} => by
      have z := wo_under (H := upd H9 p o1) (D := p) (o := o2)
      rw [wo_upd] at z
      exact z
    refine ⟨dx, g, .ref a, .ref p3, .ref p5, y, ys, ?_, (M3.same Sm9).same F10, ok, dp_same F10 (dp_same Sm9 M1), ⟨perm, srt⟩, dp_same F10 (dp_same Sm9 M4), dp_same F10 M6, ?_⟩
    · rw [upd_same]
      rfl
    · unfold sumOf
      rw [show (List.map (fun x : Str × Int => x.2) r) = r.map (fun it : Str × Int => it.2) from rfl, hv1]
      exact dp_same F10 (dp_same Sm9 dy)
end
end K11
namespace K11
open PySem PySem.Spec PyProof.Rows L2 GL
def itemT (it : Str × Int) : Str := it.1 ++ (toString it.2 : Str)
def rowT (r : RowT) : Str := Txt.join " " (r.map itemT)
/-- a row of at most twelve items -/
structure RowS (t : Bool) (r : RowT) : Prop where
  most : r.length ≤ 12
  all : ∀ x ∈ r, ItemOk t x
theorem _root_.GL.RowOk.s {t : Bool} {r : RowT} (h : RowOk t r) : RowS t r := ⟨h.most, h.all⟩
def spRowText (K : PySem.W.Frag) : Sp := fun vs H Q _ => ∃ x r t, vs = [x] ∧ Dp K H x (rowD r) ∧ RowS t r ∧ ∀ H', Same H H' → Q (.str (rowT r)) H'
def spRLen (K : PySem.W.Frag) (C : Addr) (U : Bool → Addr) (CR : Addr) : Sp := fun vs H Q _ => ∃ p t r, vs = [.ref p] ∧ RuleAt K C U CR H p t r ∧ Q (.int r.length) H
def spRStr (K : PySem.W.Frag) (C : Addr) (U : Bool → Addr) (CR : Addr) : Sp := fun vs H Q _ => ∃ p t r, vs = [.ref p] ∧ RuleAt K C U CR H p t r ∧ ∀ H', Same H H' → Q (.str (rowT r)) H'
def spRIter (K : PySem.W.Frag) (C : Addr) (U : Bool → Addr) (CR : Addr) : Sp := fun vs H Q _ => ∃ p dx g a l s e, vs = [.ref p] ∧ H p = some (.ins CR dx (rF g (.ref a) l s e)) ∧ ∃ xs, SqT K H a xs ∧ ∀ it, H it = none → Q (.ref it) (upd H it (ItT a it 0))
def spRItem (K : PySem.W.Frag) (C : Addr) (U : Bool → Addr) (CR : Addr) : Sp := fun vs H Q _ => ∃ p t r i it, vs = [.ref p, .int (i : Nat)] ∧ RuleAt K C U CR H p t r ∧ r[i]? = some it ∧ ∀ x, Dp K H x (itemD it) → Q x H
/-- y as the other side of a rule -/
def ROpdR (K : PySem.W.Frag) (C : Addr) (U : Bool → Addr) (CR : Addr) (H : Hp) (t : Bool) (r : RowT) (y : V) (b : Bool) : Prop := (∃ p t' r', y = .ref p ∧ RuleAt K C U CR H p t' r' ∧ b = (t == t' && decide (r = r'))) ∨ ∃ kd, Of K H y kd ∧ b = false
def spREq (K : PySem.W.Frag) (C : Addr) (U : Bool → Addr) (CR : Addr) : Sp := fun vs H Q _ => ∃ p t r y b, vs = [.ref p, y] ∧ RuleAt K C U CR H p t r ∧ ROpdR K C U CR H t r y b ∧ Q (.bl b) H
def spRIn (K : PySem.W.Frag) (C : Addr) (U : Bool → Addr) (CR : Addr) : Sp := fun vs H Q _ => ∃ p t r x d, vs = [.ref p, x] ∧ RuleAt K C U CR H p t r ∧ Dp K H x d ∧ Mild d ∧ SeqAt.shaped d = true ∧ Q (.bl (if isItemD t d then (r.map itemD).any (fun z => PyData.eqv z d) else (r.map fun it => PyData.str it.1).any (fun z => PyData.eqv z d))) H
theorem dec_len : ∀ i : Int, 0 ≤ i → i < 6 → (Str.ofString (toString i)).length = 1 := by
  intro i a b
  have h : i = 0 ∨ i = 1 ∨ i = 2 ∨ i = 3 ∨ i = 4 ∨ i = 5 := by omega
  rcases h with h | h | h | h | h | h <;> subst h <;> decide +kernel
theorem let_len {y : Str} (h : LetS y = true) : y.length = 1 := of_decide_eq_true (Bool.and_eq_true_iff.mp h).1
theorem item_len {t : Bool} {it : Str × Int} (h : ItemOk t it) : (itemT it).length = 2 := by
  have n : (num t : Int) ≤ 6 := by cases t <;> decide
  unfold itemT
  rw [Str.length_append, let_len h.l]
  have z := dec_len it.2 h.a (by have := h.b; omega)
  show 1 + (Str.ofString (toString it.2)).length = 2
  rw [z]
section
variable {P : Program} {w : World} {K : PySem.W.Frag} {mg : Str → Option Value} {base : Heap}
variable {aG dU C CR : Addr} {U : Bool → Addr} {us : Bool → List Addr}
theorem rF_grid {g : Addr} {x l s e : V} : (rF g x l s e).lookup ("grid" : Str) = some (.ref g) := rfl
theorem rF_row {g : Addr} {x l s e : V} : (rF g x l s e).lookup ("row" : Str) = some x := rfl
theorem rF_letters {g : Addr} {x l s e : V} : (rF g x l s e).lookup ("letters" : Str) = some l := rfl
theorem rF_starts {g : Addr} {x l s e : V} : (rF g x l s e).lookup ("starts" : Str) = some s := rfl
theorem rF_end {g : Addr} {x l s e : V} : (rF g x l s e).lookup ("end" : Str) = some e := rfl
theorem h_row_text (T : Txt K mg aG dU C CR) (D : Df K mg "row_text" s_row_text) : Has P w K mg base CX0 "row_text" 1 ["items"] (spRowText K) := by
  refine D.has sc_row_text (fun vs H Q E h => ?_) (fun kV doc pm an cdv ct us hl => match us, hl with | [_], _ => rfl) (fun f cdv A outer s H vs Q E gd hr h => ?_)
  · obtain ⟨x, r, t, rfl, _⟩ := h
    rfl
  · obtain ⟨x, r, t, rfl, hx, ok, k⟩ := h
    refine ⟨_, (pss_one
 (ps_ret (pe_bm PySem.F.plainAttrs_str PySem.F.slot_str_join PySem.F.type_str_join mt_join pe_str (pa_cons (pe_lc (own := [("letter", 1), ("turn", 2)]) (g := (gTup K 2 (gCons (gName 1) (gCons (gName 2) gNil)))) (tt := tYes) (by rfl) sc_row_text.nd (pi_tup (pv 0)) (blkOk_by (own := [("letter", 1), ("turn", 2)]) (N := N_row_text) (sc := defScope s_row_text) (by decide +kernel)) (fun _ _ _ _ _ => (pg_tupK (K0 := K) (n := 2) (by exact rfl) (by rfl) (pgs_cons (pg_name (i := 1) sc_row_text.nd rfl (Or.inl rfl)) (pgs_cons (pg_name (i := 2) sc_row_text.nd rfl (Or.inl rfl)) pgs_nil)))) (fun _ _ _ _ _ => pts_nil) (fun _ _ _ _ _ => (pe_joined (.cons (pe_fmt (pv 1)) (.cons (pe_fmt (pv 2)) .nil))))) pa_nil)))), ?_⟩
    obtain ⟨a, xs, rfl, hs, l⟩ := dTup hx
    have few : r.length ≤ 1000 := Nat.le_trans ok.most (by decide)
    refine ⟨rfl, _, rfl, a, rfl, ⟨_, hs⟩, fun D hD => lc_row (te := fun σ H Q => tJs [tFmt (tVar 1), tFmt (tVar 2)] Str.empty σ H fun out H1 => Q (V.str out) H1) (fun it => .str (itemT it)) hs l few hD (fun _ _ => rfl) (fun n it H' hit _ _ Q q => ?_) (fun H2 s2 dp => ?_)⟩
    · have iok := ok.all it (List.mem_of_getElem? hit)
      have n6 : (num t : Int) ≤ 6 := by cases t <;> decide
      have lo := iok.a
      have hi := iok.b
      have l1 := let_len iok.l
      have l2 := item_len iok
      refine ⟨_, rfl, .inl ⟨_, rfl, by rw [l1, sizeLine_eq]; decide, ?_⟩⟩
      refine ⟨_, rfl, by rw [Str.empty_append, l1, sizeLine_eq]; decide, _, rfl, .inr ⟨_, rfl, Nat.lt_trans (PySem.Flt.log2_lt_of (k := 4) (by decide) (by omega)) (by decide), ?_⟩⟩
      rw [Str.empty_append]
      exact ⟨_, rfl, by show (itemT it).length ≤ sizeLine; rw [l2, sizeLine_eq]; decide, q _ _ same_rfl (.str _)⟩
    · obtain ⟨_, ys, e0, hys, lys⟩ := dLst dp
      cases e0
      have ey : ys = (r.map itemT).map V.str := dStrs' (by rw [List.map_map]; exact lys)
      subst ey
      refine ⟨_, _, _, rfl, rfl, .inl hys, ?_, k _ s2⟩
      have sum : ((r.map itemT).map (fun x => x.length)).sum = 2 * r.length := by
        have each : ∀ it ∈ r, (itemT it).length = 2 := fun it h => item_len (ok.all it h)
        clear ok l dp hys lys k few hx
        induction r with
        | nil => rfl
        | cons x r ih =>
          have a1 := each x (List.mem_cons_self ..)
          have a2 := ih (fun it h => each it (List.mem_cons_of_mem _ h))
          simp only [List.map_cons, List.sum_cons, List.length_cons] at a2 ⊢
          omega
      have m := ok.most
      rw [sum, List.length_map]
      show 2 * r.length + r.length * 1 ≤ 16777216
      omega
end
end K11
namespace K11
open PySem PySem.Spec PyProof.Rows L2 GL SkE
theorem let_ok {y : Str} (h : LetS y = true) : PyData.strOk y = true := by
  unfold PyData.strOk
  have z := (Bool.and_eq_true_iff.mp h).2
  rw [List.all_eq_true] at z
  rw [Array.all_eq_true]
  intro i hi
  have m := z (y.cps[i]) (by simp)
  simp only [Bool.and_eq_true, decide_eq_true_eq] at m
  refine decide_eq_true ?_
  exact Nat.lt_of_le_of_lt m.2 (by decide)
theorem row_lay {t : Bool} : ∀ {r : RowT}, (∀ x ∈ r, ItemOk t x) → PyData.canLayAll0 (r.map itemD) = true
  | [], _ => rfl
  | x :: r, h => by
    have a := row_lay (r := r) (fun y hy => h y (List.mem_cons_of_mem _ hy))
    have b := let_ok (h x (List.mem_cons_self ..)).l
    simp [PyData.canLayAll0, PyData.canLay0, itemD, a, b]
theorem row_depth : ∀ (r : RowT), PyData.depthAll (r.map itemD) ≤ 1
  | [] => by simp [PyData.depthAll]
  | x :: r => by
    have := row_depth r
    simp [PyData.depthAll, PyData.depth, itemD]
    omega
theorem row_shaped {t : Bool} {r : RowT} (h : ∀ x ∈ r, ItemOk t x) : SeqAt.shaped (rowD r) = true := by
  have d := row_depth r
  unfold SeqAt.shaped rowD
  simp [PyData.canLay0, row_lay h, PyData.depth]
  omega
theorem strs_lays : ∀ {ys : List Str}, (∀ y ∈ ys, PyData.strOk y = true) → PyData.canLayAll0 (ys.map PyData.str) = true
  | [], _ => rfl
  | w :: r, h => by
    have := strs_lays (ys := r) (fun v hv => h v (List.mem_cons_of_mem _ hv))
    simp [PyData.canLayAll0, PyData.canLay0, this, h w (List.mem_cons_self ..)]
theorem strs_deep : ∀ (ys : List Str), PyData.depthAll (ys.map PyData.str) = 0
  | [] => by simp [PyData.depthAll]
  | y :: r => by simp [PyData.depthAll, PyData.depth, strs_deep r]
theorem strs_shapedT {ys : List Str} (h : ∀ y ∈ ys, PyData.strOk y = true) : SeqAt.shaped (.tuple (ys.map PyData.str)) = true := by
  unfold SeqAt.shaped
  simp [PyData.canLay0, strs_lays h, PyData.depth, strs_deep]
theorem item_eqv (a b : Str × Int) : PyData.eqv (itemD a) (itemD b) = decide (a = b) := by
  obtain ⟨a1, a2⟩ := a
  obtain ⟨b1, b2⟩ := b
  simp [itemD, PyData.eqv, PyData.eqvAll, Prod.ext_iff]
  rfl
theorem row_eqvA : ∀ (a b : RowT), PyData.eqvAll (a.map itemD) (b.map itemD) = decide (a = b)
  | [], [] => rfl
  | [], _ :: _ => rfl
  | _ :: _, [] => rfl
  | x :: a, y :: b => by
    show (PyData.eqv (itemD x) (itemD y) && PyData.eqvAll (a.map itemD) (b.map itemD)) = _
    rw [item_eqv, row_eqvA a b]
    by_cases h1 : x = y <;> by_cases h2 : a = b <;> simp [h1, h2]
theorem row_eqv (a b : RowT) : PyData.eqv (rowD a) (rowD b) = decide (a = b) := by
  show PyData.eqvAll (a.map itemD) (b.map itemD) = _
  exact row_eqvA a b
theorem any_names {r : RowT} {ys : List Str} (h : Lets r ys) (p : PyData → Bool) : (ys.map PyData.str).any p = (r.map fun it => PyData.str it.1).any p := by
  rw [Bool.eq_iff_iff, List.any_eq_true, List.any_eq_true]
  constructor
  · rintro ⟨d, hd, hp⟩
    obtain ⟨y, hy, rfl⟩ := List.mem_map.mp hd
    have m := (setS_mem _ _).mp (h.1.mem_iff.mp hy)
    obtain ⟨it, hit, rfl⟩ := List.mem_map.mp m
    exact ⟨_, List.mem_map.mpr ⟨it, hit, rfl⟩, hp⟩
  · rintro ⟨d, hd, hp⟩
    obtain ⟨it, hit, rfl⟩ := List.mem_map.mp hd
    exact ⟨_, List.mem_map.mpr ⟨it.1, h.1.mem_iff.mpr ((setS_mem _ _).mpr (List.mem_map.mpr ⟨it, hit, rfl⟩)), rfl⟩, hp⟩
theorem lets_ok {t : Bool} {r : RowT} {ys : List Str} (ok : RowOk t r) (h : Lets r ys) : ∀ y ∈ ys, LetS y = true := fun y hy => by
  have m := (setS_mem _ _).mp (h.1.mem_iff.mp hy)
  obtain ⟨it, hit, rfl⟩ := List.mem_map.mp m
  exact (ok.all it hit).l
section
variable {P : Program} {w : World} {K : PySem.W.Frag} {mg : Str → Option Value} {base : Heap}
variable {aG dU C CR : Addr} {U : Bool → Addr} {us : Bool → List Addr}
theorem h_rlen (T : Txt K mg aG dU C CR) (rc : RCls K CR) (D : Dm K CR "__len__" "Rule.__len__" s_Rule_WlenW) : HasM P w K mg base CX0 CR "__len__" 1 ["self"] (spRLen K C U CR) := by
  refine D.has sc_Rule_WlenW (fun vs H Q E h => ?_) (fun kV doc pm an cdv ct us hl => match us, hl with | [_], _ => rfl) (fun f cdv A outer s H vs Q E gd hr h => ?_)
  · obtain ⟨p, t, r, rfl, _⟩ := h
    rfl
  · obtain ⟨p, t, r, rfl, ⟨dx, g, x, ll, ss, ee, ys, e1, hg, ok, hx, _⟩, k⟩ := h
    refine ⟨_, (pss_one
 (ps_ret (pe_callB call_len_seq (by exact rfl) T.zlen PySem.boot_len (pa_cons (pe_fld (pv 0) rfl) pa_nil)))), ?_⟩
    obtain ⟨a, xs, rfl, hs, l⟩ := dTup hx
    rw [← rowLen l] at k
    exact ⟨_, rfl, _, _, _, _, _, rfl, e1, rc.cls, rc.row, rF_row, a, xs, rfl, .inr hs, k⟩
theorem h_riter (T : Txt K mg aG dU C CR) (rc : RCls K CR) (D : Dm K CR "__iter__" "Rule.__iter__" s_Rule_WiterW) : HasM P w K mg base CX0 CR "__iter__" 1 ["self"] (spRIter K C U CR) := by
  refine D.has sc_Rule_WiterW (fun vs H Q E h => ?_) (fun kV doc pm an cdv ct us hl => match us, hl with | [_], _ => rfl) (fun f cdv A outer s H vs Q E gd hr h => ?_)
  · obtain ⟨p, dx, g, a, l, s, e, rfl, _⟩ := h
    rfl
  · obtain ⟨p, dx, g, a, l, s, e, rfl, e1, xs, hs, k⟩ := h
    refine ⟨_, (pss_one
 (ps_ret (pe_callB call_iterT (by exact rfl) T.ziter (by decide +kernel) (pa_cons (pe_fld (pv 0) rfl) pa_nil)))), ?_⟩
    exact ⟨_, rfl, _, _, _, _, _, rfl, e1, rc.cls, rc.row, rF_row, a, _, rfl, hs, k⟩
theorem h_ritem (T : Txt K mg aG dU C CR) (rc : RCls K CR) (D : Dm K CR "__getitem__" "Rule.__getitem__" s_Rule_WgetitemW) (his_integer : Has P w K mg base CX0 "is_integer" 1 ["value"] (spIsInt K)) : HasM P w K mg base CX0 CR "__getitem__" 2 ["self", "index"] (spRItem K C U CR) := by
  refine D.has sc_Rule_WgetitemW (fun vs H Q E h => ?_) (fun kV doc pm an cdv ct us hl => match us, hl with | [_, _], _ => rfl) (fun f cdv A outer s H vs Q E gd hr h => ?_)
  · obtain ⟨p, t, r, i, it, rfl, _⟩ := h
    rfl
  · obtain ⟨p, t, r, i, it, rfl, ⟨dx, g, x, ll, ss, ee, ys, e1, hg, ok, hx, _⟩, hit, k⟩ := h
    refine ⟨_, (pss_cons
 (ps_if (PW.pt (pw_or (pt_not (pt_val (pe_callH his_integer gd (hr.mono (by decide)) pass0 (pa_cons (pv 1) pa_nil)))) (pw_or (pt_cmpR op_lt (pv 1) pe_int (nomark _)) (pw_or1 (pt_cmpR op_ge (pv 1) (pe_callB call_len_seq (by exact rfl) T.zlen PySem.boot_len (pa_cons (pe_fld (pv 0) rfl) pa_nil)) (nomark _)))))) (pss_one
 ps_never) pss_nil)
 (pss_one
 (ps_ret (pe_ix ix_tup (pe_fld (pv 0) rfl) (pv 1) (fun _ _ => rfl))))), ?_⟩
    obtain ⟨a, xs, rfl, hs, l⟩ := dTup hx
    have lt := (List.getElem?_eq_some_iff.mp hit).1
    have ln := rowLen l
    have m := ok.most
    obtain ⟨y, hy, dy⟩ := dAt' l (i := i) (d := itemD it) (by rw [List.getElem?_map, hit]; rfl)
    refine ⟨_, rfl, _, _, rfl, .int, _, rfl, ?_⟩
    rw [short_of (x := (i : Int)) (by rw [Int.natAbs_natCast]; omega)]
    refine (iteF ?_ : if (!true) = true then _ else _)
    refine ⟨_, rfl, _, _, rfl, rfl, _, rfl, ?_⟩
    rw [decide_eq_false (show ¬ (i : Int) < 0 by omega)]
    refine iteF ⟨_, rfl, _, rfl, _, _, _, _, _, rfl, e1, rc.cls, rc.row, rF_row, a, xs, rfl, .inr hs, _, _, rfl, rfl, _, rfl, ?_⟩
    rw [decide_eq_false (show ¬ (xs.length : Int) ≤ (i : Int) by omega)]
    refine iteF ?_
    exact ⟨_, rfl, _, _, _, _, _, rfl, e1, rc.cls, rc.row, rF_row, _, rfl, a, _, _, y, rfl, rfl, hs, atI_nat hy, k y dy⟩
theorem h_rin (T : Txt K mg aG dU C CR) (rc : RCls K CR) (D : Dm K CR "__contains__" "Rule.__contains__" s_Rule_WcontainsW) (his_item : Has P w K mg base CX0 "is_item" 4 ["grid", "value"] (spIsItem K C U)) : HasM P w K mg base CX0 CR "__contains__" 5 ["self", "value"] (spRIn K C U CR) := by
  refine D.has sc_Rule_WcontainsW (fun vs H Q E h => ?_) (fun kV doc pm an cdv ct us hl => match us, hl with | [_, _], _ => rfl) (fun f cdv A outer s H vs Q E gd hr h => ?_)
  · obtain ⟨p, t, r, x, d, rfl, _⟩ := h
    rfl
  · obtain ⟨p, t, r, x, d, rfl, ⟨dx, g, xr, ll, ss, ee, ys, e1, hg, ok, hx, lets, hl, _⟩, dd, mild, shp, k⟩ := h
    have hu66 : (A.deeper (envOfC "Rule.__contains__" (defScope s_Rule_WcontainsW) s.heap.objs.size f cdv)).units + 66 < cLine := by have := hr.un; omega
    refine ⟨_, (pss_cons
 (ps_if (pt_val (pe_callH his_item gd (hr.mono (by decide)) pass0 (pa_cons (pe_fld (pv 0) rfl) (pa_cons (pv 1) pa_nil)))) (pss_one
 (ps_ret (pe_cmpR (op_inT hu66) (pv 1) (pe_fld (pv 0) rfl) (by rfl)))) pss_nil)
 (pss_one
 (ps_ret (pe_cmpR (op_inT hu66) (pv 1) (pe_fld (pv 0) rfl) (by rfl))))), ?_⟩
    refine ⟨_, rfl, _, _, _, _, _, rfl, e1, rc.cls, rc.grid, rF_grid, _, rfl, g, t, x, d, rfl, hg, dd, mild, _, rfl, ?_⟩
    cases b : isItemD t d with
    | true =>
      rw [b, if_pos rfl] at k
      exact iteT ⟨_, rfl, _, rfl, _, _, _, _, _, rfl, e1, rc.cls, rc.row, rF_row, d, _, dd, hx, shp, row_shaped ok.all, k⟩
    | false =>
      rw [b, if_neg Bool.false_ne_true, ← any_names lets] at k
      exact iteF ⟨_, rfl, _, rfl, _, _, _, _, _, rfl, e1, rc.cls, rc.letters, rF_letters, d, _, dd, hl, shp, strs_shapedT (fun y hy => let_ok (lets_ok ok lets y hy)), k⟩
theorem h_rstr (T : Txt K mg aG dU C CR) (rc : RCls K CR) (D : Dm K CR "__str__" "Rule.__str__" s_Rule_WstrW) (hrow_text : Has P w K mg base CX0 "row_text" 1 ["items"] (spRowText K)) : HasM P w K mg base CX0 CR "__str__" 2 ["self"] (spRStr K C U CR) := by
  refine D.has sc_Rule_WstrW (fun vs H Q E h => ?_) (fun kV doc pm an cdv ct us hl => match us, hl with | [_], _ => rfl) (fun f cdv A outer s H vs Q E gd hr h => ?_)
  · obtain ⟨p, t, r, rfl, _⟩ := h
    rfl
  · obtain ⟨p, t, r, rfl, ⟨dx, g, xr, ll, ss, ee, ys, e1, hg, ok, hx, lets, hl, _⟩, k⟩ := h
    refine ⟨_, (pss_one
 (ps_ret (pe_callTy call_str_str (by exact rfl) T.zstr (by decide +kernel) (pa_cons (pe_callH hrow_text gd (hr.mono (by decide)) pass0 (pa_cons (pe_fld (pv 0) rfl) pa_nil)) pa_nil)))), ?_⟩
    exact ⟨_, rfl, _, _, _, _, _, rfl, e1, rc.cls, rc.row, rF_row, _, r, t, rfl, hx, ok.s, fun H' s' => ⟨_, rfl, k H' s'⟩⟩
theorem h_geq (c : GCls K C) (i : GIs K C) (T : Txt K mg aG dU C CR) (D : Dm K C "__eq__" "Grid.__eq__" s_Grid_WeqW) : HasM P w K mg base CX0 C "__eq__" 1 ["self", "other"] (spGEq K C U) := by
  refine D.has sc_Grid_WeqW (fun vs H Q E h => ?_) (fun kV doc pm an cdv ct us hl => match us, hl with | [_, _], _ => rfl) (fun f cdv A outer s H vs Q E gd hr h => ?_)
  · obtain ⟨g, t, y, r, rfl, _⟩ := h
    rfl
  · obtain ⟨g, t, y, r, rfl, ⟨dx, eg⟩, o, k⟩ := h
    refine ⟨_, (pss_one
 (ps_ret (pe_and (pe_callB call_isi (by exact rfl) T.zisinstance (by decide +kernel) (pa_cons (pv 1) (pa_cons (pe_globV T.gGrid) pa_nil))) (pe_one (pe_cmpR op_eq (pe_fld (pv 0) rfl) (pe_fld (pv 1) rfl) (nomark _)))))), ?_⟩
    rcases o with ⟨b, t', rfl, ⟨dy, eb⟩, rfl⟩ | ⟨kd, o, rfl⟩
    · refine ⟨_, rfl, _, _, _, _, _, rfl, .own _, i.ty c.cls eb, kit_self, _, rfl, iteT ?_⟩
      refine ⟨_, rfl, _, _, _, _, _, rfl, eg, c.cls, c.name, gF_name, _, rfl, _, _, _, _, _, rfl, eb, c.cls, c.name, gF_name, rfl, ?_⟩
      rw [show decide (V.str (nm t) = V.str (nm t')) = (t == t') by cases t <;> cases t' <;> decide +kernel]
      exact k
    · exact ⟨_, rfl, _, _, _, _, _, rfl, .own _, o, i.kit kd, _, rfl, iteF k⟩
theorem h_req (T : Txt K mg aG dU C CR) (c : GCls K C) (i : GIs K C) (rc : RCls K CR) (ri : GIs K CR) (D : Dm K CR "__eq__" "Rule.__eq__" s_Rule_WeqW) (hm_eq : HasM P w K mg base CX0 C "__eq__" 1 ["self", "other"] (spGEq K C U)) : HasM P w K mg base CX0 CR "__eq__" 2 ["self", "other"] (spREq K C U CR) := by
  refine D.has sc_Rule_WeqW (fun vs H Q E h => ?_) (fun kV doc pm an cdv ct us hl => match us, hl with | [_, _], _ => rfl) (fun f cdv A outer s H vs Q E gd hr h => ?_)
  · obtain ⟨p, t, r, y, b, rfl, _⟩ := h
    rfl
  · obtain ⟨p, t, r, y, b, rfl, ⟨dx, g, x, ll, ss, ee, ys, e1, hg, ok, hx, _⟩, o, k⟩ := h
    have hu := hr.units
    refine ⟨_, (pss_one
 (ps_ret (pe_and (pe_callB call_isi (by exact rfl) T.zisinstance (by decide +kernel) (pa_cons (pv 1) (pa_cons (pe_globV T.gRule) pa_nil))) (pe_and (pe_cmpR (op_eqA hm_eq gd (hr.mono (by decide)) pass0) (pe_fld (pv 0) rfl) (pe_fld (pv 1) rfl) (nomark _)) (pe_one (pe_cmpR (op_eqD hu) (pe_fld (pv 0) rfl) (pe_fld (pv 1) rfl) (nomark _))))))), ?_⟩
    rcases o with ⟨q, t', r', rfl, ⟨dx', g', x', ll', ss', ee', ys', e2, hg', ok', hx', _⟩, rfl⟩ | ⟨kd, o, rfl⟩
    · refine ⟨_, rfl, _, _, _, _, _, rfl, .own _, ri.ty rc.cls e2, kit_self, _, rfl, iteT ?_⟩
      obtain ⟨dg, eg⟩ := id hg
      obtain ⟨dg', eg'⟩ := id hg'
      refine ⟨_, rfl, _, _, _, _, _, rfl, e1, rc.cls, rc.grid, rF_grid, _, rfl, _, _, _, _, _, rfl, e2, rc.cls, rc.grid, rF_grid, ?_⟩
      refine ⟨g, dg, _, _, rfl, eg, i.ty c.cls eg', nf_self, g, t, _, (t == t'), rfl, hg, .inl ⟨g', t', rfl, hg', rfl⟩, (t == t'), rfl, _, rfl, ?_⟩
      cases ett : t == t' with
      | false =>
        rw [ett, Bool.false_and] at k
        exact iteF k
      | true =>
        rw [ett, Bool.true_and] at k
        refine iteT ⟨_, rfl, _, _, _, _, _, rfl, e1, rc.cls, rc.row, rF_row, _, rfl, _, _, _, _, _, rfl, e2, rc.cls, rc.row, rF_row, rowD r, rowD r', hx, hx', row_shaped ok.all, row_shaped ok'.all, ?_⟩
        rw [row_eqv]
        exact k
    · exact ⟨_, rfl, _, _, _, _, _, rfl, .own _, o, ri.kit kd, _, rfl, iteF k⟩
end
end K11
namespace K11
open PySem PySem.Spec PyProof.Rows L2 GL SkE
abbrev s_row_in : Stmt := topS 36
abbrev N_row_in : List Str := ["text", "words", "word"]
theorem sc_row_in : FnScope N_row_in ["text"] (defScope s_row_in) := ⟨rfl, rfl, rfl, by decide +kernel, rfl, by decide +kernel, by decide +kernel⟩
abbrev s__is_item_text : Stmt := topS 37
abbrev N__is_item_text : List Str := ["word"]
theorem sc__is_item_text : FnScope N__is_item_text ["word"] (defScope s__is_item_text) := ⟨rfl, rfl, rfl, by decide +kernel, rfl, by decide +kernel, by decide +kernel⟩
/-- a sign pair that is the text of an item -/
def wordOk (y : Str) : Bool := match y.cps.toList with
  | [c, d] => (decide (97 ≤ c) && decide (c ≤ 122)) && (decide (48 ≤ d) && decide (d ≤ 53))
  | _ => false
def wordIt (y : Str) : Str × Int := match y.cps.toList with
  | [c, d] => (⟨#[c]⟩, ((d - 48 : Nat) : Int))
  | _ => (y, 0)
def rowIn (a : Str) : Option RowT := if (Txt.split a " ").length ≤ 12 ∧ (Txt.split a " ").all wordOk = true then some ((Txt.split a " ").map wordIt) else none
theorem two_cps {y : Str} (h : y.length = 2) : ∃ c d, y = ⟨#[c, d]⟩ := by
  obtain ⟨⟨l⟩⟩ := y
  match l, h with
  | [c, d], _ => exact ⟨c, d, rfl⟩
theorem not_two {y : Str} (h : y.length ≠ 2) : wordOk y = false := by
  obtain ⟨⟨l⟩⟩ := y
  match l, h with
  | [], _ => rfl
  | [_], _ => rfl
  | [_, _], h => exact absurd rfl h
  | _ :: _ :: _ :: _, _ => rfl
theorem turns_mem (d : Nat) : decide (d ∈ (("012345" : Str)).cps.toList) = (decide (48 ≤ d) && decide (d ≤ 53)) := by
  rw [show (("012345" : Str)).cps.toList = [48, 49, 50, 51, 52, 53] by decide +kernel, Bool.eq_iff_iff, decide_eq_true_eq, Bool.and_eq_true, decide_eq_true_eq, decide_eq_true_eq]
  simp only [List.mem_cons, List.not_mem_nil, or_false]
  omega
theorem turns_at : ∀ i < 6, Builtin.Str.occurrences ("012345" : Str) ⟨#[48 + i]⟩ 0 ("012345" : Str).length 1 = [i] := by decide +kernel
theorem letS_one (c : Nat) : LetS (⟨#[c]⟩ : Str) = (decide (97 ≤ c) && decide (c ≤ 122)) := by
  show (decide ((⟨#[c]⟩ : Str).length = 1) && ([c].all fun c => decide (97 ≤ c) && decide (c ≤ 122))) = _
  rw [decide_eq_true (show (⟨#[c]⟩ : Str).length = 1 from rfl)]
  simp
theorem word_item {y : Str} (h : wordOk y = true) : ItemOk true (wordIt y) ∧ itemT (wordIt y) = y := by
  obtain ⟨⟨l⟩⟩ := y
  match l, h with
  | [c, d], h =>
    have h : ((decide (97 ≤ c) && decide (c ≤ 122)) && (decide (48 ≤ d) && decide (d ≤ 53))) = true := h
    simp only [Bool.and_eq_true, decide_eq_true_eq] at h
    obtain ⟨⟨h1, h2⟩, h3, h4⟩ := h
    refine ⟨⟨?_, ?_, ?_⟩, ?_⟩
    · show LetS (⟨#[c]⟩ : Str) = true
      rw [letS_one]
      simp [h1, h2]
    · show (0 : Int) ≤ ((d - 48 : Nat) : Int)
      omega
    · show ((d - 48 : Nat) : Int) < 6
      omega
    · show (⟨#[c]⟩ : Str) ++ (toString ((d - 48 : Nat) : Int) : Str) = ⟨#[c, d]⟩
      have fin : ∀ k < 6, ((toString ((k : Nat) : Int) : String) : Str) = ⟨#[48 + k]⟩ := by decide +kernel
      rw [fin (d - 48) (by omega), show 48 + (d - 48) = d by omega]
      rfl
  | [], h => cases h
  | [_], h => cases h
  | _ :: _ :: _ :: _, h => cases h
/-! ### what comes of a text -/
theorem join_size {sep : Str} : ∀ {l : List Str}, l ≠ [] → (Str.join sep l).length + sep.length = (l.map fun y => y.length + sep.length).sum
  | [], h => absurd rfl h
  | [y], _ => by
    show y.length + sep.length = _
    simp
  | y :: z :: r, _ => by
    have ih := join_size (sep := sep) (l := z :: r) (fun h => by cases h)
    show ((y ++ sep) ++ Str.join sep (z :: r)).length + sep.length = _
    rw [Str.length_append, Str.length_append, List.map_cons, List.sum_cons, ← ih]
    omega
theorem sum_ge : ∀ {l : List Nat} {n : Nat}, n ∈ l → n ≤ l.sum
  | x :: r, n, h => by
    rw [List.sum_cons]
    rcases List.mem_cons.mp h with e | e
    · omega
    · have := sum_ge e
      omega
theorem sum_many : ∀ {l : List Nat}, (∀ x ∈ l, 1 ≤ x) → l.length ≤ l.sum
  | [], _ => Nat.le_refl _
  | x :: r, h => by
    have a := h x (List.mem_cons_self ..)
    have b := sum_many (l := r) (fun y hy => h y (List.mem_cons_of_mem _ hy))
    rw [List.sum_cons, List.length_cons]
    omega
theorem split_small (a : Str) : (Txt.split a " ").length ≤ a.length + 1 ∧ ∀ y ∈ Txt.split a " ", y.length ≤ a.length + 1 := by
  by_cases e : Txt.split a " " = []
  · rw [e]
    exact ⟨Nat.zero_le _, fun y h => by cases h⟩
  · have j := join_size (sep := (" " : Str)) e
    rw [StrLaws.join_split] at j
    have one : (" " : Str).length = 1 := by decide +kernel
    rw [one] at j
    constructor
    · have z := sum_many (l := (Txt.split a " ").map fun y => y.length + 1) (fun x hx => by
        obtain ⟨y, _, rfl⟩ := List.mem_map.mp hx
        omega)
      rw [List.length_map] at z
      omega
    · intro y hy
      have z := sum_ge (l := (Txt.split a " ").map fun y => y.length + 1) (List.mem_map_of_mem (f := fun y : Str => y.length + 1) hy)
      have z : y.length + 1 ≤ _ := z
      omega
theorem rowIn_some {a : Str} {r : RowT} (h : rowIn a = some r) : RowS true r ∧ rowT r = a ∧ r = (Txt.split a " ").map wordIt := by
  unfold rowIn at h
  split at h
  · rename_i c
    cases h
    have all : ∀ y ∈ Txt.split a " ", wordOk y = true := List.all_eq_true.mp c.2
    refine ⟨⟨by rw [List.length_map]; exact c.1, fun x hx => ?_⟩, ?_, rfl⟩
    · obtain ⟨y, hy, rfl⟩ := List.mem_map.mp hx
      exact (word_item (all y hy)).1
    · unfold rowT
      show Builtin.Str.glued " " _ = a
      rw [StrLaws.glued_eq_join, List.map_map, show (Txt.split a " ").map (itemT ∘ wordIt) = Txt.split a " " from (List.map_congr_left fun y hy => (word_item (all y hy)).2).trans (List.map_id _), StrLaws.join_split]
  · cases h
def spWord : Sp := fun vs H Q _ => ∃ y, vs = [.str y] ∧ y.length ≤ 2000 ∧ Q (.bl (wordOk y)) H
def spRowIn (K : PySem.W.Frag) : Sp := fun vs H Q _ => ∃ a, vs = [.str a] ∧ a.length ≤ 1000 ∧ (rowIn a = none → ∀ H', Same H H' → Q .non H') ∧ (∀ r, rowIn a = some r → ∀ x H', Same H H' → Dp K H' x (rowD r) → Q x H')
section
variable {P : Program} {w : World} {K : PySem.W.Frag} {mg : Str → Option Value} {base : Heap}
variable {aG dU C CR : Addr} {U : Bool → Addr} {us : Bool → List Addr}
theorem h_is_item_text (T : Txt K mg aG dU C CR) (D : Df K mg "_is_item_text" s__is_item_text) (his_letter : Has P w K mg base CX0 "is_letter" 1 ["value"] (spLet K)) : Has P w K mg base CX0 "_is_item_text" 2 ["word"] spWord := by
  refine D.has sc__is_item_text (fun vs H Q E h => ?_) (fun kV doc pm an cdv ct us hl => match us, hl with | [_], _ => rfl) (fun f cdv A outer s H vs Q E gd hr h => ?_)
  · obtain ⟨y, rfl, _⟩ := h
    rfl
  · obtain ⟨y, rfl, few, k⟩ := h
    refine ⟨_, (pss_one
 (ps_ret (pe_and (pe_cmpR op_eq (pe_callB call_len_str (by exact rfl) T.zlen PySem.boot_len (pa_cons (pv 0) pa_nil)) pe_int (nomark _)) (pe_and (pe_callH his_letter gd (hr.mono (by decide)) pass0 (pa_cons (pe_ix ix_str (pv 0) pe_int (fun _ _ => rfl)) pa_nil)) (pe_one (pe_cmpR op_in_sign (pe_ix ix_str (pv 0) pe_int (fun _ _ => rfl)) (pe_globV T.g_TURNS) (by rfl))))))), ?_⟩
    refine ⟨_, rfl, _, rfl, Nat.le_trans few (by rw [sizeLine_eq]; decide), rfl, _, rfl, ?_⟩
    by_cases h2 : y.length = 2
    · obtain ⟨c, d, rfl⟩ := two_cps h2
      rw [show decide (V.int (((⟨#[c, d]⟩ : Str).length : Nat) : Int) = V.int 2) = true from decide_eq_true rfl]
      refine iteT ?_
      refine ⟨_, rfl, _, _, _, rfl, rfl, by show 2 ≤ sizeLine; decide, atI_nat (j := 0) rfl, _, .str ⟨#[c]⟩, rfl, .str _, (fun z e => by cases e; show 1 ≤ 1000; decide), _, rfl, ?_⟩
      rw [show isLetD (.str ⟨#[c]⟩) = (decide (97 ≤ c) && decide (c ≤ 122)) from letS_one c]
      have ew : wordOk (⟨#[c, d]⟩ : Str) = ((decide (97 ≤ c) && decide (c ≤ 122)) && (decide (48 ≤ d) && decide (d ≤ 53))) := rfl
      rw [ew] at k
      cases b : (decide (97 ≤ c) && decide (c ≤ 122)) with
      | false =>
        rw [b, Bool.false_and] at k
        exact iteF k
      | true =>
        rw [b, Bool.true_and] at k
        refine iteT ⟨_, rfl, _, _, _, rfl, rfl, by show 2 ≤ sizeLine; decide, atI_nat (j := 1) rfl, _, _, rfl, rfl, ?_⟩
        rw [turns_mem]
        exact k
    · rw [show decide (V.int ((y.length : Nat) : Int) = V.int 2) = false from decide_eq_false (fun z => h2 (by injection z with z; omega))]
      rw [not_two h2] at k
      exact iteF k
theorem h_row_in (T : Txt K mg aG dU C CR) (D : Df K mg "row_in" s_row_in) (h_is_item_text : Has P w K mg base CX0 "_is_item_text" 2 ["word"] spWord) : Has P w K mg base CX0 "row_in" 3 ["text"] (spRowIn K) := by
  refine D.has sc_row_in (fun vs H Q E h => ?_) (fun kV doc pm an cdv ct us hl => match us, hl with | [_], _ => rfl) (fun f cdv A outer s H vs Q E gd hr h => ?_)
  · obtain ⟨a, rfl, _⟩ := h
    rfl
  · obtain ⟨a, rfl, few, k0, k1⟩ := h
    refine ⟨_, (pss_cons
 (ps_set (i := 1) sc_row_in.nd rfl (Or.inl rfl) (pe_bm PySem.F.plainAttrs_str PySem.F.slot_str_split PySem.F.type_str_split mt_split (pv 0) (pa_cons pe_str pa_nil)))
 (pss_cons
 (ps_if (PW.pt (pw_or (pt_cmpR op_gt (pe_callB call_len_seq (by exact rfl) T.zlen PySem.boot_len (pa_cons (pv 1) pa_nil)) (pe_globV T.gMAX_ITEMS) (nomark _)) (pw_or1 (pt_not (pt_val (pe_callB (cr_all rfl) (by exact rfl) T.zall (by decide +kernel) (pa_cons (pe_lc (own := [("word", 2)]) (g := gName 2) (tt := tYes) (by rfl) sc_row_in.nd (pi_list (pv 1)) (blkOk_by (own := [("word", 2)]) (N := N_row_in) (sc := defScope s_row_in) (by decide +kernel)) (fun _ _ _ _ _ => pg_name (i := 2) sc_row_in.nd rfl (Or.inl rfl)) (fun _ _ _ _ _ => pts_nil) (fun _ _ _ _ _ => (pe_callH h_is_item_text gd (hr.mono (by decide)) pass0 (pa_cons (pv 2) pa_nil)))) pa_nil))))))) (pss_one
 (ps_ret pe_non)) pss_nil)
 (pss_one
 (ps_ret (pe_callTy call_tuple_of (by exact rfl) T.ztuple (by decide +kernel) (pa_cons (pe_lc (own := [("word", 2)]) (g := gName 2) (tt := tYes) (by rfl) sc_row_in.nd (pi_list (pv 1)) (blkOk_by (own := [("word", 2)]) (N := N_row_in) (sc := defScope s_row_in) (by decide +kernel)) (fun _ _ _ _ _ => pg_name (i := 2) sc_row_in.nd rfl (Or.inl rfl)) (fun _ _ _ _ _ => pts_nil) (fun _ _ _ _ _ => (pe_tup (pa_cons (pe_ix ix_str (pv 2) pe_int (fun _ _ => rfl)) (pa_cons (pe_bmK (K0 := K) (by exact rfl) PySem.F.plainAttrs_str PySem.F.slot_str_index PySem.F.type_str_index mt_sindex (pe_globV T.g_TURNS) (pa_cons (pe_ix ix_str (pv 2) pe_int (fun _ _ => rfl)) pa_nil)) pa_nil))))) pa_nil)))))), ?_⟩
    dsimp only [cxOf, Cx.nox]
    obtain ⟨many, small⟩ := split_small a
    refine ⟨_, rfl, rfl, a, " ", rfl, rfl, by decide +kernel, by rw [sizeLine_eq]; omega, fun p np => ?_⟩
    have s1 := Same.new (o := .lst ((Txt.split a " ").map V.str)) np
    have hp : SqL K (upd H p (.lst ((Txt.split a " ").map V.str))) p ((Txt.split a " ").map V.str) := SqL.of upd_same
    generalize upd H p (.lst ((Txt.split a " ").map V.str)) = H1 at *
    generalize ews : Txt.split a " " = ws at *
    refine ⟨_, rfl, p, _, rfl, .inl hp, _, _, rfl, rfl, _, rfl, ?_⟩
    rw [List.length_map]
    by_cases few12 : ws.length ≤ 12
    · rw [decide_eq_false (show ¬ (12 : Int) < (ws.length : Int) by omega)]
      refine iteF ?_
      refine ⟨_, rfl, p, rfl, ⟨_, hp⟩, fun D hD => lc_list (a := p) (xs := ws.map V.str) (fun i' H' => Same H1 H' ∧ H' D = some (.lst (((ws.take i').map wordOk).map V.bl))) ⟨Same.new hD, upd_same⟩ (fun i' H' _ h => sqL_same hp h.1) ?_ ?_⟩
      · rintro i' x H' hx ⟨s', hacc⟩
        obtain ⟨y, hy, rfl⟩ : ∃ y, ws[i']? = some y ∧ x = .str y := by
          rw [List.getElem?_map] at hx
          cases e : ws[i']? with
          | none => rw [e] at hx; cases hx
          | some y => rw [e] at hx; cases hx; exact ⟨y, rfl, rfl⟩
        have sy := small y (List.mem_of_getElem? hy)
        refine ⟨rfl, ?_⟩
        simp only [tYes, if_true]
        refine ⟨_, rfl, y, rfl, by omega, _, hacc, ?_, Same.over s' hD _, ?_⟩
        · rw [List.length_map, List.length_map, List.length_take, sizeLine_eq]
          omega
        · rw [upd_same, List.take_add_one, hy, List.map_append, List.map_append]
          rfl
      rintro H2 ⟨s2, hacc⟩
      rw [List.length_map, List.take_length] at hacc
      refine ⟨D, _, rfl, SqL.of hacc, _, rfl, ?_⟩
      have eall : (ws.map wordOk).all id = ws.all wordOk := by rw [List.all_map]; rfl
      rw [eall]
      cases b : ws.all wordOk with
      | false => exact iteT (k0 (by unfold rowIn; rw [ews, b, if_neg (fun z => by cases z.2)]) _ (s1.trans s2))
      | true =>
        refine iteF ?_
        have er : rowIn a = some (ws.map wordIt) := by unfold rowIn; rw [ews, b, if_pos ⟨few12, rfl⟩]
        have oks := List.all_eq_true.mp b
        have hp2 := sqL_same hp s2
        refine ⟨_, rfl, p, rfl, ⟨_, hp2⟩, fun D2 hD2 => lc_list (a := p) (xs := ws.map V.str) (fun i' H' => Grow K H2 D2 ((ws.take i').map fun y => itemD (wordIt y)) H') (by rw [List.take_zero]; exact Grow.start hD2) (fun i' H' _ A => sqL_same hp2 A.same) ?_ ?_⟩
        · rintro i' x H' hx A
          obtain ⟨y, hy, rfl⟩ : ∃ y, ws[i']? = some y ∧ x = .str y := by
            rw [List.getElem?_map] at hx
            cases e : ws[i']? with
            | none => rw [e] at hx; cases hx
            | some y => rw [e] at hx; cases hx; exact ⟨y, rfl, rfl⟩
          have oy := oks y (List.mem_of_getElem? hy)
          obtain ⟨c, d, rfl, d0, d1⟩ : ∃ c d, y = ⟨#[c, d]⟩ ∧ 48 ≤ d ∧ d ≤ 53 := by
            have l2 : y.length = 2 := by
              by_cases h : y.length = 2
              · exact h
              · rw [not_two h] at oy; cases oy
            obtain ⟨c, d, rfl⟩ := two_cps l2
            have oy : ((decide (97 ≤ c) && decide (c ≤ 122)) && (decide (48 ≤ d) && decide (d ≤ 53))) = true := oy
            simp only [Bool.and_eq_true, decide_eq_true_eq] at oy
            exact ⟨c, d, rfl, oy.2.1, oy.2.2⟩
          obtain ⟨ys, eD, lD⟩ := A.ex
          refine ⟨rfl, ?_⟩
          simp only [tYes, if_true]
          have occ := turns_at (d - 48) (by omega)
          rw [show 48 + (d - 48) = d by omega] at occ
          refine ⟨_, rfl, _, _, _, rfl, rfl, by show 2 ≤ sizeLine; decide, atI_nat (j := 0) rfl, rfl, _, rfl, _, _, _, rfl, rfl, by show 2 ≤ sizeLine; decide, atI_nat (j := 1) rfl, _, _, _, _, rfl, rfl, occ, by show 2 ≤ sizeLine; decide, fun q nq => ?_⟩
          have A2 := A.ext (Same.new (o := .tup [.str ⟨#[c]⟩, .int ((d - 48 : Nat) : Int)]) nq)
          have eD2 := Same.new (o := .tup [.str ⟨#[c]⟩, .int ((d - 48 : Nat) : Int)]) nq _ _ eD
          refine ⟨ys, eD2, ?_, ?_⟩
          · rw [A.len eD, List.length_map, List.length_take, sizeLine_eq]
            omega
          · rw [List.take_add_one, hy]
            show Grow K H2 D2 ((ws.take i' ++ [_]).map _) _
            rw [List.map_append]
            exact A2.push eD2 (itemDp (it := (⟨#[c]⟩, ((d - 48 : Nat) : Int))) (SqT.of (wo_at upd_same (fun z => by rw [z, eD] at nq; cases nq))))
        · rintro H3 A
          rw [List.length_map, List.take_length] at A
          obtain ⟨zs, eD, lD⟩ := A.ex
          refine ⟨D2, zs, rfl, .inl ⟨SqL.of eD, fun q nq => k1 _ er _ _ ((s1.trans s2).trans (A.same.trans (Same.new nq))) ?_⟩⟩
          refine .tup (SqT.of upd_same) ?_
          rw [List.map_map]
          exact dps_same ((wo_same).trans (Same.new nq)) lD
    · rw [decide_eq_true (show (12 : Int) < (ws.length : Int) by omega)]
      exact iteT (iteT (k0 (by unfold rowIn; rw [ews, if_neg (fun z => few12 z.1)]) _ s1))
end
end K11
namespace K11
open PySem PySem.Spec PyProof.Rows L2 GL SkE
abbrev s_write_row : Stmt := topS 38
abbrev N_write_row : List Str := ["items"]
theorem sc_write_row : FnScope N_write_row ["items"] (defScope s_write_row) := ⟨rfl, rfl, rfl, by decide +kernel, rfl, by decide +kernel, by decide +kernel⟩
theorem if_num {σ : L2.St} {H : Hp} {A : VK} {t : Bool} (h : A (.int (num t : Nat)) H) : if decide (V.str (nm t) = V.str "square") = true then tC (.int 4) σ H A else tC (.int 6) σ H A := by
  cases t
  · rw [if_pos (by decide +kernel)]; exact h
  · rw [if_neg (by decide +kernel)]; exact h
theorem made_same {D : Addr} {H1 : Hp} {q dq : Addr} (hq : H1 q = none) (hdq : H1 dq = none) (ne : dq ≠ q) : Same H1 (upd (upd H1 dq (.own q)) q (.ins D dq [])) := (Same.new hdq).trans (Same.new (by rw [upd_ne ne.symm]; exact hq))
theorem made_keep {H1 Hm H' : Hp} {q : Addr} (hq : H1 q = none) (s : Same H1 Hm) (keep : ∀ b o, b ≠ q → Hm b = some o → H' b = some o) : Same H1 H' := fun b o e => keep b o (fun z => by rw [z, hq] at e; cases e) (s b o e)
theorem made_grid {D : Addr} {H1 H' : Hp} {q dq : Addr} (hq : H1 q = none) (hdq : H1 dq = none) (ne : dq ≠ q) (keep : ∀ b, b ≠ q → H' b = (upd (upd H1 dq (.own q)) q (.ins D dq [])) b) : Same H1 H' := made_keep hq (made_same hq hdq ne) (fun b o n e => by rw [keep b n]; exact e)
theorem nil_intro {σ : L2.St} {H : Hp} {R : List V → Hp → Prop} (h : R [] H) : tNil σ H R := h
theorem TK.wo {H : Hp} {D : Addr} {xs : List V} (e : H D = some (.lst xs)) : TK H (wo D H) := fun b o h n => wo_at h (fun z => by rw [z, e] at h; cases h; exact n _ rfl)
theorem ne_self {x : V} : (!decide (x = x)) = false := by simp
theorem die_same {H H' : Hp} {p : Addr} (d : Die H p) (s : Same H H') : Die H' p := let ⟨l, b, c, h0, e⟩ := d; ⟨l, b, c, h0, s _ _ e⟩
theorem die_free {H : Hp} {p b : Addr} (d : Die H p) (n : H b = none) : b ≠ p := fun z => by obtain ⟨_, _, _, _, e⟩ := d; rw [z, e] at n; cases n
theorem got_same {p : Addr} {H H1 H2 : Hp} (s : Same H H1) (g : Got p H1 H2) : Got p H H2 := ⟨fun b o e n => g.keep b o (s _ _ e) n, g.die⟩
theorem noLs_row (r : RowT) : noLs (r.map itemD) = true := noL_row r
section
variable {K : PySem.W.Frag} {H : Hp} {x y : V} {ds es : List PyData} {Q : VK}
theorem cat_go (ha : Dp K H x (.tuple ds)) (hb : Dp K H y (.tuple es)) (few : ds.length + es.length ≤ sizeLine) (k : ∀ z H', Same H H' → Dp K H' z (.tuple (ds ++ es)) → Q z H') : rCatA K x y H Q := by
  obtain ⟨a, xs, rfl, hx, lx⟩ := dTup ha
  obtain ⟨b, ys, rfl, hy, ly⟩ := dTup hb
  have l1 := dLen lx
  have l2 := dLen ly
  refine ⟨a, b, xs, ys, rfl, rfl, hx, hy, by rw [l1, l2]; exact few, fun e => ?_, fun _ e => ?_, fun _ _ p np => ?_⟩
  · have d0 : ds = [] := List.length_eq_zero_iff.mp (by rw [← l1, e]; rfl)
    exact k _ H same_rfl (by rw [d0]; exact hb)
  · have e0 : es = [] := List.length_eq_zero_iff.mp (by rw [← l2, e]; rfl)
    exact k _ H same_rfl (by rw [e0, List.append_nil]; exact ha)
  · exact k _ _ (Same.new np) (.tup (SqT.of upd_same) (dApp (dps_same (Same.new np) lx) (dps_same (Same.new np) ly)))
theorem cut_go {lo hi : Option Int} {i j : Nat} (ha : Dp K H x (.tuple ds)) (e1 : HT.sIx ds.length 0 lo = i) (e2 : HT.sIx ds.length ds.length hi = j) (k : ∀ z H', Same H H' → Dp K H' z (.tuple ((ds.drop i).take (j - i))) → Q z H') : rSlA K x lo hi H Q := by
  obtain ⟨a, xs, rfl, hx, lx⟩ := dTup ha
  have l1 := dLen lx
  rw [← l1] at e1 e2
  refine ⟨a, xs, rfl, hx, fun ⟨w1, w2⟩ => ?_, fun _ p np => ?_⟩
  · refine k _ H same_rfl ?_
    rw [← e1, ← e2, w1, w2, List.drop_zero, Nat.sub_zero, l1, List.take_length]
    exact ha
  · refine k _ _ (Same.new np) (.tup (SqT.of upd_same) ?_)
    unfold cutV
    rw [e1, e2]
    exact dTake _ (dDrop _ (dps_same (Same.new np) lx))
end
section
variable {K : PySem.W.Frag} {H : Hp} {C CR : Addr} {U : Bool → Addr} {t : Bool} {r : RowT}
theorem go_grid {H1 : Hp} {Q : Addr → Hp → Prop} {E : XK} (k : ∀ g H3, Same H1 H3 → GridAt C U H3 g t → Q g H3) :
    ∀ q dq, H1 q = none → H1 dq = none → dq ≠ q → spInit C U (.ref q :: ([.str (nm t)] ++ [])) (upd (upd H1 dq (.own q)) q (.ins C dq [])) (fun v H2 => v = .non ∧ Q q H2) E := by
  intro q dq ng nd ne
  exact ⟨q, dq, t, rfl, upd_same, fun H3 keep eg => ⟨rfl, k q H3 (made_grid ng nd ne keep) ⟨dq, eg⟩⟩⟩
theorem go_rule {H1 : Hp} {g : Addr} {x : V} {Q : Addr → Hp → Prop} {E : XK} (gr : GridAt C U H1 g t) (hx : Dp K H1 x (rowD r)) (ok : RowOk t r) (k : ∀ R H4, H1 R = none → Same H1 H4 → RuleAt K C U CR H4 R t r → Q R H4) :
    ∀ q dq, H1 q = none → H1 dq = none → dq ≠ q → spRInit K C U CR (.ref q :: ([.ref g, x] ++ [])) (upd (upd H1 dq (.own q)) q (.ins CR dq [])) (fun v H2 => v = .non ∧ Q q H2) E := by
  intro R dR nR nd ne
  have fm := made_same (D := CR) nR nd ne
  exact ⟨R, dR, g, t, x, r, rfl, upd_same, gr.same fm, dp_same fm hx, ok, fun H4 keep rule => ⟨rfl, k R H4 nR (made_keep nR fm keep) rule⟩⟩
theorem eq_rule {B R2 : Addr} {t2 : Bool} {r2 : RowT} {neg : Bool} {E : XK} {Q : VK} (rc : RCls K CR) (ri : GIs K CR) (hB : RuleAt K C U CR H B t r) (h2 : RuleAt K C U CR H R2 t2 r2) (k : Q (.bl (neg != (t == t2 && decide (r = r2)))) H) : rEqA K CR (spREq K C U CR) E neg (.ref B) (.ref R2) H Q := by
  obtain ⟨dx, g, x, l, s, e, ys, eB, _⟩ := id hB
  obtain ⟨dx2, g2, x2, l2, s2, e2, ys2, eB2, _⟩ := id h2
  exact ⟨B, dx, _, _, rfl, eB, ri.ty rc.cls eB2, nf_self, B, t, r, _, _, rfl, hB, .inl ⟨R2, t2, r2, rfl, h2, rfl⟩, _, rfl, k⟩
theorem eq_kind {B : Addr} {y : V} {kd : Kd} {neg : Bool} {E : XK} {Q : VK} (hB : RuleAt K C U CR H B t r) (h2 : Of K H y kd) (k : Q (.bl (neg != false)) H) : rEqA K CR (spREq K C U CR) E neg (.ref B) y H Q := by
  obtain ⟨dx, g, x, l, s, e, ys, eB, _⟩ := id hB
  exact ⟨B, dx, _, _, rfl, eB, h2, nf_kd kd, B, t, r, _, _, rfl, hB, .inr ⟨kd, h2, rfl⟩, _, rfl, k⟩
theorem eq_same {x : Bool} {r : RowT} : (true != (x == x && decide (r = r))) = false := by simp
end
section
variable {K : PySem.W.Frag} {H H' H1 : Hp} {C CR : Addr} {U : Bool → Addr} {t : Bool} {r : RowT}
theorem GridAt.tk {g : Addr} (h : GridAt C U H g t) (k : TK H H') : GridAt C U H' g t := let ⟨dx, e⟩ := h; ⟨dx, k _ _ e (fun _ z => by cases z)⟩
theorem RuleAt.tk {p : Addr} (h : RuleAt K C U CR H p t r) (k : TK H H') : RuleAt K C U CR H' p t r := by
  obtain ⟨dx, g, x, l, st, e, ys, a1, a2, a3, a4, a5, a6, a7, a8⟩ := h
  exact ⟨dx, g, x, l, st, e, ys, k _ _ a1 (fun _ z => by cases z), GridAt.tk a2 k, a3, dp_tk k a4 (noL_row r), a5, dp_tk k a6 (noL_strs ys), dp_tk k a7 (noL_pts _), dp_tk k a8 rfl⟩
theorem plain_tk {q : Addr} (h : PlainAt H q t) (k : TK H H') : PlainAt H' q t := k _ _ h (fun _ z => by cases z)
end
def RNew (K : PySem.W.Frag) (C : Addr) (U : Bool → Addr) (CR : Addr) (H : Hp) (t : Bool) (r : RowT) (Q : VK) : Prop := ∀ q H', H q = none → Same H H' → RuleAt K C U CR H' q t r → Q (.ref q) H'
theorem fresh_of {H H' : Hp} {r : Addr} (s : Same H H') (n : H' r = none) : H r = none := by
  cases e : H r with
  | none => rfl
  | some o => rw [s _ _ e] at n; cases n
/-- whether data is a row of so many items at least -/
def isRowD (t : Bool) (n : Int) : PyData → Bool
  | .tuple ds => (decide (n ≤ (ds.length : Int)) && decide (ds.length ≤ 12)) && ds.all (isItemD t)
  | _ => false
def MildD (d : PyData) : Prop := ∀ ds, d = .tuple ds → ds.length ≤ 1000 ∧ ∀ x ∈ ds, Mild x
def spIsRowG (K : PySem.W.Frag) (C : Addr) (U : Bool → Addr) : Sp := fun vs H Q _ => ∃ g t x d n, vs = [.ref g, x, .int n] ∧ GridAt C U H g t ∧ Dp K H x d ∧ isCountV (.int n) = true ∧ MildD d ∧ ∀ H', Same H H' → Q (.bl (isRowD t n d)) H'
def spWrite (K : PySem.W.Frag) : Sp := fun vs H Q _ => ∃ x r, vs = [x] ∧ Dp K H x (rowD r) ∧ RowS true r ∧ 1 ≤ r.length ∧ ∀ H', Same H H' → Q (.str (rowT r)) H'
theorem item_mild {t : Bool} {it : Str × Int} (h : ItemOk t it) : Mild (itemD it) := ⟨by show 2 ≤ 1000; decide, fun d hd y e => by
  simp only [List.mem_cons, List.not_mem_nil, or_false] at hd
  rcases hd with rfl | rfl
  · cases e
    show it.1.length ≤ 1000
    rw [let_len h.l]; decide
  · cases e⟩
theorem row_mild {t : Bool} {r : RowT} (h : RowS t r) : MildD (rowD r) := fun ds e => by
  cases e
  refine ⟨by rw [List.length_map]; have := h.most; omega, fun x hx => ?_⟩
  obtain ⟨it, hi, rfl⟩ := List.mem_map.mp hx
  exact item_mild (h.all it hi)
theorem isRow_row {t : Bool} {n : Int} {r : RowT} : isRowD t n (rowD r) = true ↔ n ≤ (r.length : Int) ∧ RowS t r := by
  show (((decide (n ≤ ((r.map itemD).length : Int)) && decide ((r.map itemD).length ≤ 12)) && (r.map itemD).all (isItemD t)) = true) ↔ _
  rw [List.length_map, Bool.and_eq_true, Bool.and_eq_true, decide_eq_true_eq, decide_eq_true_eq, List.all_eq_true]
  constructor
  · rintro ⟨⟨h1, h2⟩, h3⟩
    refine ⟨h1, h2, fun it hi => ?_⟩
    have z := h3 (itemD it) (List.mem_map_of_mem hi)
    have z : (LetS it.1 && isTurnD t (.int it.2)) = true := z
    rw [Bool.and_eq_true] at z
    have z2 : (isCountV (.int it.2) && decide (it.2 < (num t : Int))) = true := z.2
    rw [Bool.and_eq_true, decide_eq_true_eq] at z2
    have z3 : (isIntV (.int it.2) && decide ((0 : Int) ≤ it.2)) = true := z2.1
    rw [Bool.and_eq_true, decide_eq_true_eq] at z3
    exact ⟨z.1, z3.2, z2.2⟩
  · rintro ⟨h1, h⟩
    refine ⟨⟨h1, h.most⟩, fun d hd => ?_⟩
    obtain ⟨it, hi, rfl⟩ := List.mem_map.mp hd
    exact item_ok (h.all it hi)
section
variable {P : Program} {w : World} {K : PySem.W.Frag} {mg : Str → Option Value} {base : Heap}
variable {aG dU C CR eP iP : Addr} {U : Bool → Addr} {us : Bool → List Addr}
theorem h_is_row_g (T : Txt K mg aG dU C CR) (D : Df K mg "is_row" s_is_row) (h_check_grid : Has P w K mg base CX0 "_check_grid" 1 ["grid"] (spCheckG C U)) (his_count : Has P w K mg base CX0 "is_count" 2 ["value"] (spIsCount K)) (his_item : Has P w K mg base CX0 "is_item" 4 ["grid", "value"] (spIsItem K C U)) :
    HasK P w K mg base CX0 "is_row" 5 ["grid", "value", "least"] 2 ["least"] (spIsRowG K C U) := by
  refine D.hasK sc_is_row (fun vs H Q E h => ?_) (fun kV doc pm an cdv ct us ws h1 h2 => match us, ws, h1, h2 with | [_, _], [_], _, _ => rfl) (fun f cdv A outer s H vs Q E gd hr h => ?_)
  · obtain ⟨g, t, x, d, n, rfl, _⟩ := h
    rfl
  · obtain ⟨g, t, x, d, n, rfl, hg, hx, cn, mild, q⟩ := h
    refine ⟨_, (pss_cons
 (ps_expr (pe_callH h_check_grid gd (hr.mono (by decide)) pass0 (pa_cons (pv 0) pa_nil)))
 (pss_cons
 (ps_if (pt_not (pt_val (pe_callH his_count gd (hr.mono (by decide)) pass0 (pa_cons (pv 2) pa_nil)))) (pss_one
 ps_never) pss_nil)
 (pss_cons
 (ps_if (PW.pt (pw_or (pt_not (pt_val (pe_callB call_isi (by exact rfl) T.zisinstance (by decide +kernel) (pa_cons (pv 1) (pa_cons (pe_bltn (v := .ty "tuple") (by exact rfl) T.ztuple (by decide +kernel) rfl) pa_nil))))) (pw_or (pt_cmpR op_lt (pe_callB call_len_seq (by exact rfl) T.zlen PySem.boot_len (pa_cons (pv 1) pa_nil)) (pv 2) (nomark _)) (pw_or1 (pt_cmpR op_gt (pe_callB call_len_seq (by exact rfl) T.zlen PySem.boot_len (pa_cons (pv 1) pa_nil)) (pe_globV T.gMAX_ITEMS) (nomark _)))))) (pss_one
 (ps_ret pe_bl)) pss_nil)
 (pss_one
 (ps_ret (pe_callB (cr_all rfl) (by exact rfl) T.zall (by decide +kernel) (pa_cons (pe_lc (own := [("item", 3)]) (g := gName 3) (tt := tYes) (by rfl) sc_is_row.nd (pi_tup (pv 1)) (blkOk_by (own := [("item", 3)]) (N := N_is_row) (sc := defScope s_is_row) (by decide +kernel)) (fun _ _ _ _ _ => pg_name (i := 3) sc_is_row.nd rfl (Or.inl rfl)) (fun _ _ _ _ _ => pts_nil) (fun _ _ _ _ _ => (pe_callH his_item gd (hr.mono (by decide)) pass0 (pa_cons (pv 0) (pa_cons (pv 3) pa_nil))))) pa_nil))))))), ?_⟩
    refine ⟨_, rfl, g, t, rfl, hg, ?_⟩
    refine ⟨_, rfl, _, _, rfl, .int, _, rfl, ?_⟩
    rw [cn]
    refine (iteF ?_ : if (!true) = true then _ else _)
    refine ⟨_, rfl, _, _, _, _, _, rfl, .ty _, dOf hx, kit_tup _, _, rfl, ?_⟩
    cases d with
    | tuple ds =>
      obtain ⟨m1, m2⟩ := mild ds rfl
      obtain ⟨a, xs, rfl, hs, l⟩ := dTup hx
      have ln := dLen l
      have eR : isRowD t n (.tuple ds) = ((decide (n ≤ (ds.length : Int)) && decide (ds.length ≤ 12)) && ds.all (isItemD t)) := rfl
      rw [eR] at q
      refine iteF ⟨_, rfl, a, xs, rfl, .inr hs, _, rfl, _, _, rfl, rfl, _, rfl, ?_⟩
      by_cases c1 : n ≤ (ds.length : Int)
      · rw [decide_eq_false (show ¬ (xs.length : Int) < n by omega)]
        rw [decide_eq_true c1, Bool.true_and] at q
        refine iteF ⟨_, rfl, a, xs, rfl, .inr hs, _, _, rfl, rfl, _, rfl, ?_⟩
        by_cases c2 : ds.length ≤ 12
        · rw [decide_eq_false (show ¬ (12 : Int) < (xs.length : Int) by omega)]
          rw [decide_eq_true c2, Bool.true_and] at q
          refine iteF ?_
          refine ⟨_, rfl, a, rfl, ⟨_, hs⟩, fun D hD => lc_tup (a := a) (xs := xs) (fun i' H' => Same H H' ∧ H' D = some (.lst (((ds.take i').map (isItemD t)).map V.bl))) ⟨Same.new hD, upd_same⟩ (fun i' H' _ h => sqT_same hs h.1) ?_ ?_⟩
          · rintro i' x H' hx ⟨s', hacc⟩
            obtain ⟨d, hd, dx⟩ := dAt l hx
            refine ⟨rfl, ?_⟩
            simp only [tYes, if_true]
            refine ⟨_, rfl, _, rfl, g, t, x, d, rfl, hg.same s', dp_same s' dx, m2 d (List.mem_of_getElem? hd), ?_⟩
            refine ⟨_, hacc, ?_, Same.over s' hD _, ?_⟩
            · rw [List.length_map, List.length_map, List.length_take, sizeLine_eq]
              omega
            · rw [upd_same, List.take_add_one, hd, List.map_append, List.map_append]
              rfl
          rintro Hc ⟨sc, hacc⟩
          rw [ln, List.take_length] at hacc
          refine ⟨D, _, rfl, SqL.of hacc, ?_⟩
          rw [show (ds.map (isItemD t)).all id = ds.all (isItemD t) by rw [List.all_map]; rfl]
          exact q _ sc
        · rw [decide_eq_true (show (12 : Int) < (xs.length : Int) by omega)]
          rw [decide_eq_false c2, Bool.false_and] at q
          exact iteT (q _ same_rfl)
      · rw [decide_eq_true (show (xs.length : Int) < n by omega)]
        rw [decide_eq_false c1, Bool.false_and, Bool.false_and] at q
        exact iteT (iteT (q _ same_rfl))
    | _ => exact iteT (iteT (q _ same_rfl))
theorem h_write_row (T : Txt K mg aG dU C CR) (D : Df K mg "write_row" s_write_row) (hGrid : HasC P w K mg base "Grid" C 1 ["self", "name"] (spInit C U)) (his_row : HasK P w K mg base CX0 "is_row" 5 ["grid", "value", "least"] 2 ["least"] (spIsRowG K C U)) (hrow_text : Has P w K mg base CX0 "row_text" 1 ["items"] (spRowText K)) :
    Has P w K mg base CX0 "write_row" 6 ["items"] (spWrite K) := by
  refine D.has sc_write_row (fun vs H Q E h => ?_) (fun kV doc pm an cdv ct us hl => match us, hl with | [_], _ => rfl) (fun f cdv A outer s H vs Q E gd hr h => ?_)
  · obtain ⟨x, r, rfl, _⟩ := h
    rfl
  · obtain ⟨x, r, rfl, hx, ok, ne, k⟩ := h
    refine ⟨_, (pss_cons
 (ps_if (pt_not (pt_val (pe_callKH his_row gd (hr.mono (by decide)) pass0 (pa_cons (pe_makeH hGrid (hr.mono (by decide)) pass0 (pa_cons pe_str pa_nil)) (pa_cons (pv 0) pa_nil)) (pk_cons pe_int pk_nil)))) (pss_one
 ps_never) pss_nil)
 (pss_one
 (ps_ret (pe_callH hrow_text gd (hr.mono (by decide)) pass0 (pa_cons (pv 0) pa_nil))))), ?_⟩
    refine go_grid (t := true) fun g H2 s2 gr => ⟨_, rfl, rfl, rfl, g, true, x, rowD r, 1, rfl, gr, dp_same s2 hx, ?_, row_mild ok, fun H3 s3 => ?_⟩
    · rw [show isCountV (.int 1) = (isIntV (.int 1) && decide ((0 : Int) ≤ 1)) from rfl, short_of (by decide)]
      rfl
    · rw [isRow_row.mpr ⟨by omega, ok⟩]
      refine ⟨_, rfl, (iteF ?_ : if (!true) = true then _ else _)⟩
      exact ⟨_, rfl, x, r, true, rfl, dp_same (s2.trans s3) hx, ok, fun H4 s4 => k _ ((s2.trans s3).trans s4)⟩
end
end K11
namespace K11
open PySem PySem.Spec PyProof.Rows L2 GL PySem.GLE LamX
abbrev s__law_met : Stmt := topS 47
abbrev N__law_met : List Str := ["_law_call", "e"]
theorem sc__law_met : FnScope N__law_met ["_law_call"] (defScope s__law_met) := ⟨rfl, rfl, rfl, by decide +kernel, rfl, by decide +kernel, by decide +kernel⟩
/-- the five classes that are caught, and the two __init__ -/
structure Cs where
  (G R O P N iP iN : Addr)
theorem takes_len {X : Cx} {W : WX} (tk : Takes X W) : Takes X (fun cls d σ H => σ.length = X.N.length → W cls d σ H) := fun u s' ⟨a, B, sI, pins, σ, H, cls, d, e, I, nb, up, sky, na, os, ag, w⟩ =>
  tk u s' ⟨a, B, sI, pins, σ, H, cls, d, e, I, nb, up, sky, na, os, ag, w I.len⟩
/-- a value that can be shown -/
structure Sh (K : PySem.W.Frag) (H : Hp) (v : V) (d : PyData) : Prop where
  rp : (Dp K H v d ∧ d.showable = true ∧ d.hasDict = false) ∨ ∃ a, v = .ref a ∧ Dq K H v d
  dep : d.depth ≤ 3
  len : d.shown.length ≤ 31000
theorem Sh.lenS {K : PySem.W.Frag} {H : Hp} {v : V} {d : PyData} (h : Sh K H v d) : d.shown.length ≤ sizeLine := Nat.le_trans h.len (by rw [sizeLine_eq]; decide)
theorem Sh.same {K : PySem.W.Frag} {H H' : Hp} {v : V} {d : PyData} (h : Sh K H v d) (s : Same H H') : Sh K H' v d :=
  ⟨h.rp.imp (fun ⟨a, b, c⟩ => ⟨dp_same s a, b, c⟩) (fun ⟨a, b, c⟩ => ⟨a, b, dq_same s c⟩), h.dep, h.len⟩
/-- what an error that leaves the call is told as -/
inductive MetW (K : PySem.W.Frag) (c : Cs) (H : Hp) : Value → Option Addr → Str → Prop
  | grid (d : Option Addr) : MetW K c H (.ref c.G) d "grid"
  | rule (d : Option Addr) : MetW K c H (.ref c.R) d "rule"
  | op (d : Option Addr) : MetW K c H (.ref c.O) d "operation"
  | parse {d : Addr} {v : V} {dv : PyData} : H d = some (.xd [("number", v)]) → Sh K H v dv → MetW K c H (.ref c.P) (some d) ("parse " ++ dv.shown)
  | num {d : Addr} {v : V} {dv : PyData} : H d = some (.xd [("value", v)]) → Sh K H v dv → MetW K c H (.ref c.N) (some d) ("number " ++ dv.shown)
/-- what is told of a call that may raise -/
def TMet (K : PySem.W.Frag) (c : Cs) : (XK → Hp → VK → Prop) → Hp → VK → Prop := fun tl H Q =>
  tl (fun cls d H' => ∃ w, MetW K c H' cls d w ∧ Q (.str w) H') H (fun _ H' => Q (.str "") H')
structure MetT (K : PySem.W.Frag) (mg : Str → Option Value) (c : Cs) : Prop where
  zrepr : mg "repr" = none
  gG : mg "InvalidGrid" = some (.ref c.G)
  gR : mg "InvalidRule" = some (.ref c.R)
  gO : mg "InvalidOperation" = some (.ref c.O)
  eP : ErrTxt K mg "ParseError" "number" c.P c.iP
  eN : ErrTxt K mg "InvalidNumber" "value" c.N c.iN
  x : ∀ D ∈ [c.G, c.R, c.O, c.P, c.N], ∀ D' ∈ [c.G, c.R, c.O, c.P, c.N], PySem.W.exmOne K (.ref D) (.ref D') = some (decide (D = D'))
  nd : [c.G, c.R, c.O, c.P, c.N].Nodup
def rAdS : R2 := fun x y H Q => ∃ i j, x = .str i ∧ y = .str j ∧ i.length + j.length ≤ sizeLine ∧ Q (.str (i ++ j)) H
def tsW (t : Str) : Addr → Value → Option Addr → TS := fun _ _ _ => tRet (tC (.str t))
def tsV (K : PySem.W.Frag) (C : Addr) (f pre : Str) : Addr → Value → Option Addr → TS := fun a cls d => tRet (tOp rAdS (tC (.str pre)) (tCB (rReprQ K) (tCons (tXf a cls d C f (tVar 1)) tNil)))
def clauses (K : PySem.W.Frag) (c : Cs) : List Cls1 := [⟨.ref c.G, none, tsW "grid"⟩, ⟨.ref c.R, none, tsW "rule"⟩, ⟨.ref c.O, none, tsW "operation"⟩, ⟨.ref c.P, some 1, tsV K c.P "number" "parse "⟩, ⟨.ref c.N, some 1, tsV K c.N "value" "number "⟩]
section
variable {K : PySem.W.Frag} {mg : Str → Option Value} {c : Cs}
theorem met_wish (T : MetT K mg c) {cls : Value} {d : Option Addr} {w : Str} {H : Hp} {σ : L2.St} {D : Ends} (m : MetW K c H cls d w) (l : σ.length = 2) (q : D.rt (.str w) H) : wCls K (fun _ _ _ _ => False) D (clauses K c) cls d σ H := by
  have nd := T.nd
  simp only [List.nodup_cons, List.mem_cons, List.not_mem_nil, or_false, not_or] at nd
  obtain ⟨⟨n1, n2, n3, n4⟩, ⟨n5, n6, n7⟩, ⟨n8, n9⟩, n10, _⟩ := nd
  have ex : ∀ {A B : Addr}, A ∈ [c.G, c.R, c.O, c.P, c.N] → B ∈ [c.G, c.R, c.O, c.P, c.N] → A ≠ B → PySem.W.exmOne K (.ref A) (.ref B) = some false := fun a b n => by rw [T.x _ a _ b, decide_eq_false n]
  have es : ∀ {A : Addr}, A ∈ [c.G, c.R, c.O, c.P, c.N] → PySem.W.exmOne K (.ref A) (.ref A) = some true := fun a => by rw [T.x _ a _ a, decide_eq_true rfl]
  have set1 : ∀ a : Addr, (σ.set 1 (some (V.ref a)))[1]? = some (some (.ref a)) := fun a => by
    rw [List.getElem?_set_self (by omega)]
  have lq : ("number " : Str).length = 7 := by decide
  have ln : ("parse " : Str).length = 6 := by decide
  cases m with
  | grid d => exact ⟨true, es (by simp), fun _ a _ => q, fun z => nomatch z⟩
  | rule d => exact ⟨false, ex (by simp) (by simp) (Ne.symm n1), (fun z => nomatch z), fun _ => ⟨true, es (by simp), fun _ a _ => q, fun z => nomatch z⟩⟩
  | op d => exact ⟨false, ex (by simp) (by simp) (Ne.symm n2), (fun z => nomatch z), fun _ => ⟨false, ex (by simp) (by simp) (Ne.symm n5), (fun z => nomatch z), fun _ => ⟨true, es (by simp), fun _ a _ => q, fun z => nomatch z⟩⟩⟩
  | parse e v =>
    have lv := v.len
    exact ⟨false, ex (by simp) (by simp) (Ne.symm n3), (fun z => nomatch z), fun _ => ⟨false, ex (by simp) (by simp) (Ne.symm n6), (fun z => nomatch z), fun _ => ⟨false, ex (by simp) (by simp) (Ne.symm n8), (fun z => nomatch z), fun _ => ⟨true, es (by simp), fun _ a _ =>
      ⟨_, set1 a, rfl, rfl, _, _, _, rfl, e, by simp [List.lookup], _, _, rfl, v.rp, Nat.le_trans v.dep (by decide), v.lenS, _, _, rfl, rfl, by rw [ln, sizeLine_eq]; omega, q⟩, fun z => nomatch z⟩⟩⟩⟩
  | num e v =>
    have lv := v.len
    exact ⟨false, ex (by simp) (by simp) (Ne.symm n4), (fun z => nomatch z), fun _ => ⟨false, ex (by simp) (by simp) (Ne.symm n7), (fun z => nomatch z), fun _ => ⟨false, ex (by simp) (by simp) (Ne.symm n9), (fun z => nomatch z), fun _ => ⟨false, ex (by simp) (by simp) (Ne.symm n10), (fun z => nomatch z), fun _ => ⟨true, es (by simp), fun _ a _ =>
      ⟨_, set1 a, rfl, rfl, _, _, _, rfl, e, by simp [List.lookup], _, _, rfl, v.rp, Nat.le_trans v.dep (by decide), v.lenS, _, _, rfl, rfl, by rw [lq, sizeLine_eq]; omega, q⟩, fun z => nomatch z⟩⟩⟩⟩⟩
theorem met_gives {X : Cx} (T : MetT X.K X.mg c) (dig : PySem.W.nsIn X.K cStatics "sys.int_max_str_digits" = some none) (gd : Gd X.A) {k : Nat} (hr : Room k X.A) {g : Addr} {cdg : Value} {q : Str} :
    GivesTo X N__law_met "_law_met" (defScope s__law_met) g cdg (defBody s__law_met) "_law_call" q (TMet X.K c) := by
  intro f c' s H Q tl act hc h
  have hu : (cxOf C8.CX0 X.prog X.w X.K X.mg X.base N__law_met "_law_met" (defScope s__law_met) g cdg X.A X.stack s H C8.E0).nox.A.units + 64 < cLine := by
    have := hr.un
    show X.A.units + 3 + 64 < cLine
    omega
  have gd2 : Gd (cxOf C8.CX0 X.prog X.w X.K X.mg X.base N__law_met "_law_met" (defScope s__law_met) g cdg X.A X.stack s H C8.E0).nox.A := gd
  refine ⟨_, pss_cons (ps_clauses (X := (cxOf C8.CX0 X.prog X.w X.K X.mg X.base N__law_met "_law_met" (defScope s__law_met) g cdg X.A X.stack s H C8.E0).nox) (W0 := fun _ _ _ _ => False) (l := clauses X.K c)
      (tb := fun W D σ H => ∃ Ech : XK, (∀ cls d σ' H', σ'.length = 2 → Ech cls d H' → W cls d σ' H') ∧ σ[0]? = some (some (.ref f)) ∧ H c' = some (CodeO c' q) ∧ tl Ech H (fun _ H1 => D.nx σ H1))
      rfl rfl takes_none5 (fun W pn xe tk _ => ?_)
      (.bare ⟨rfl, by decide, .inl T.gG⟩ (fun a oe cls d pn hz hf => pss_one (ps_ret pe_str)) (.bare ⟨rfl, by decide, .inl T.gR⟩ (fun a oe cls d pn hz hf => pss_one (ps_ret pe_str)) (.bare ⟨rfl, by decide, .inl T.gO⟩ (fun a oe cls d pn hz hf => pss_one (ps_ret pe_str))
      (.named ⟨rfl, by decide, .inl T.eP.gC⟩ sc__law_met.nd rfl rfl (fun a oe cls d pn hz hf => pss_one (ps_ret (pe_op op_add_str pe_str (pe_callB (call_reprQ dig gd2 hu) (by exact rfl) T.zrepr (by decide +kernel) (pa_cons (pe_xf ⟨T.eP.ga, T.eP.gg, T.eP.exC, T.eP.hdC⟩ T.eP.noN hz hf (pv 1)) pa_nil)))))
      (.named ⟨rfl, by decide, .inl T.eN.gC⟩ sc__law_met.nd rfl rfl (fun a oe cls d pn hz hf => pss_one (ps_ret (pe_op op_add_str pe_str (pe_callB (call_reprQ dig gd2 hu) (by exact rfl) T.zrepr (by decide +kernel) (pa_cons (pe_xf ⟨T.eN.ga, T.eN.gg, T.eN.exC, T.eN.hdC⟩ T.eN.noN hz hf (pv 1)) pa_nil)))))
      .nil))))))
    (pss_one (ps_ret pe_str)), ?_⟩
  · refine ⟨fun pins s' σ H' D I h' => ?_⟩
    obtain ⟨Ech, toW, h1, h2, h3⟩ := h'
    have tk2 := takes_len tk
    have hp := fun p1 p2 => act _ pn xe Ech p1 p2 tk2 (fun cls d σ' H' e l => toW cls d σ' H' l e)
    exact (pss_one (ps_expr (hp _ _))).run pins s' σ H' D I ⟨h1, h2, h3⟩
  · exact ⟨fun cls d H' => ∃ w, MetW X.K c H' cls d w ∧ Q (.str w) H', fun cls d σ' H' l ⟨w, m, qw⟩ => met_wish T m l qw, rfl, hc, h⟩
end
end K11
namespace K11
open PySem PySem.Spec PyProof.Rows L2 GL SkE PySem.GLE LamX
section
variable {P : Program} {w : World} {K : PySem.W.Frag} {mg : Str → Option Value} {base : Heap}
theorem _root_.GL.Df.hasKX {x : Str} {st : Stmt} {N ps : List Str} {k n : Nat} {ks : List Str} {sp : Sp} (D : Df K mg x st) (S : FnScope N ps (defScope st)) (len : ∀ vs H Q E, sp vs H Q E → vs.length = ps.length)
    (bi : ∀ (kV doc pm : Value) (an : Option Addr) (cdv ct : Value) (us ws : List Value), us.length = n → ws.length = ks.length → bindArgs (PySem.W.fnOf x x (defArgs st) (defBody st) (defScope st) .none kV doc pm an cdv ct) ⟨us, ks.zip ws⟩ = pure (ps.zip (us ++ ws)))
    (body : ∀ (f : Addr) (cdv : Value) (A : Around) (outer : List Env) (s : Shared) (H : Hp) (vs : List V) (Q : VK) (E : XK), Gd (A.deeper (envOfC x (defScope st) s.heap.objs.size f cdv)) → Room k (A.deeper (envOfC x (defScope st) s.heap.objs.size f cdv)) → sp vs H Q E →
      ∃ t, PSs (cxOf (L2.CX P w) P w K mg base N x (defScope st) f cdv A outer s H E) (defBody st) t ∧ t { nx := fun _ H' => Q .non H', rt := Q } (start N vs) H) : HasK P w K mg base (L2.CX P w) x (k + 1) ps n ks sp := by
  obtain ⟨f, fd, F, m⟩ := D.ex
  obtain ⟨oc, od, kV, doc, pm, an, cdv, ct, osl, eF, at_, cR⟩ := id F.ex
  exact ⟨f, fd, fnG_mk F S len (body f), m, F.kp, ⟨fun s us ws _ l1 l2 => by subst eF; exact .of_eq (bi kV doc pm an cdv ct us ws l1 l2), fun r1 r2 => r1.append r2⟩⟩
end
structure Msg (K : PySem.W.Frag) (mg : Str → Option Value) (x : Str) (C : Addr) : Prop where
  q : PySem.W.excIn K C [.type "ValueError", .type "Exception", .type "BaseException", .type "object"] "ValueError.__new__" = true
  g : mg x = some (.ref C)
  k : PySem.W.keepIn K (.ref C) = true
  b : PySem.W.subIn K (.ref C) (.type "BaseException") = some true
  t : PySem.W.typeIn K (.ref C) = some (.type "type")
structure TxE (K : PySem.W.Frag) (mg : Str → Option Value) (aG dU C CR : Addr) (c : Cs) : Prop extends Txt K mg aG dU C CR where
  mInvalidGrid : Msg K mg "InvalidGrid" c.G
  mInvalidRule : Msg K mg "InvalidRule" c.R
  mInvalidOperation : Msg K mg "InvalidOperation" c.O
  eParseError : ErrTxt K mg "ParseError" "number" c.P c.iP
  eInvalidNumber : ErrTxt K mg "InvalidNumber" "value" c.N c.iN
theorem if_nf {A B : Prop} (h : A) : if (!false) = true then A else B := (if_pos (by decide)).mpr h
/-- data, or an empty dict -/
def VD (K : PySem.W.Frag) (H : Hp) (x : V) (d : PyData) : Prop := Dp K H x d ∨ (d = .dict [] ∧ ∃ q, x = .ref q ∧ H q = some (.dK []))
/-- no grid -/
def NoGrid (K : PySem.W.Frag) (C : Addr) (H : Hp) (x : V) : Prop := ∃ T, TyX K H x T ∧ PySem.W.kitOne K T (.ref C) = some false
section
variable {K : PySem.W.Frag} {H H' : Hp} {x : V} {d : PyData}
theorem VD.same (h : VD K H x d) (s : Same H H') : VD K H' x d := h.imp (dp_same s) (fun ⟨e, q, a, b⟩ => ⟨e, q, a, s _ _ b⟩)
theorem VD.of (h : VD K H x d) : Of K H x (kdD d) := by
  rcases h with h | ⟨rfl, q, rfl, e⟩
  · exact dOf h
  · exact .dct e
theorem VD.tup {ds : List PyData} (h : VD K H x (.tuple ds)) : Dp K H x (.tuple ds) := by
  rcases h with h | ⟨e, _⟩
  · exact h
  · cases e
end
/-- what a wrong number leaves -/
def BadN (c : Cs) (H : Hp) (x : V) (E : XK) : Prop := ∀ d H', Same H H' → H' d = none → E (.ref c.N) (some d) (upd H' d (.xd [("value", x)]))
def Raises (H : Hp) (D : Addr) (E : XK) : Prop := ∀ H', Same H H' → E (.ref D) none H'
def spCheckGX (K : PySem.W.Frag) (C : Addr) (U : Bool → Addr) (c : Cs) : Sp := fun vs H Q E => ∃ x, vs = [x] ∧ ((∃ g t, x = .ref g ∧ GridAt C U H g t ∧ Q .non H) ∨ (NoGrid K C H x ∧ E (.ref c.G) none H))
def spIsItemX (K : PySem.W.Frag) (C : Addr) (U : Bool → Addr) (c : Cs) : Sp := fun vs H Q E => ∃ x v, vs = [x, v] ∧ ((∃ g t d, x = .ref g ∧ GridAt C U H g t ∧ VD K H v d ∧ Mild d ∧ Q (.bl (isItemD t d)) H) ∨ (NoGrid K C H x ∧ E (.ref c.G) none H))
def spIsRowX (K : PySem.W.Frag) (C : Addr) (U : Bool → Addr) (c : Cs) : Sp := fun vs H Q E => ∃ x v n k, vs = [x, v, n] ∧ Of K H n k ∧ ((NoGrid K C H x ∧ E (.ref c.G) none H) ∨ ∃ g t, x = .ref g ∧ GridAt C U H g t ∧ (isCountV n = false → BadN c H n E) ∧ ∀ i, n = .int i → isCountV (.int i) = true → ∃ d, VD K H v d ∧ MildD d ∧ ∀ H', Same H H' → Q (.bl (isRowD t i d)) H')
def spWriteX (K : PySem.W.Frag) (c : Cs) : Sp := fun vs H Q E => ∃ v d, vs = [v] ∧ VD K H v d ∧ MildD d ∧ (isRowD true 1 d = false → Raises H c.R E) ∧ (isRowD true 1 d = true → ∀ y H', Same H H' → Q y H')
section
variable {P : Program} {w : World} {K : PySem.W.Frag} {mg : Str → Option Value} {base : Heap}
variable {aG dU C CR : Addr} {U : Bool → Addr} {us : Bool → List Addr} {cs : Cs}
theorem h_check_gridX (T : TxE K mg aG dU C CR cs) (c : GCls K C) (i : GIs K C) (D : Df K mg "_check_grid" s__check_grid) : Has P w K mg base (L2.CX P w) "_check_grid" 1 ["grid"] (spCheckGX K C U cs) := by
  refine D.hasX sc__check_grid (fun vs H Q E h => ?_) (fun kV doc pm an cdv ct us hl => match us, hl with | [_], _ => rfl) (fun f cdv A outer s H vs Q E gd hr h => ?_)
  · obtain ⟨x, rfl, _⟩ := h
    rfl
  · obtain ⟨x, rfl, h⟩ := h
    refine ⟨_, (pss_one
 (ps_if (pt_not (pt_val (pe_callB call_isi (by exact rfl) T.zisinstance (by decide +kernel) (pa_cons (pv 0) (pa_cons (pe_globV T.gGrid) pa_nil))))) (pss_one
 (ps_raise rfl (takes_of rfl rfl rfl rfl) (pmk_own PySem.F.excBase_ValueError T.mInvalidGrid.q T.mInvalidGrid.g T.mInvalidGrid.k (raises_own T.mInvalidGrid.b T.mInvalidGrid.t) rfl))) pss_nil)), ?_⟩
    dsimp only [cxOf]
    rcases h with ⟨g, t, rfl, ⟨dg, eg⟩, q⟩ | ⟨⟨Ty, ty, kt⟩, e⟩
    · exact ⟨_, rfl, _, _, _, _, _, rfl, .own _, i.ty c.cls eg, kit_self, _, rfl, (iteF q : if (!true) = true then _ else _)⟩
    · exact ⟨_, rfl, _, _, _, _, _, rfl, .own _, ty, kt, _, rfl, if_nf e⟩
theorem h_is_itemX (T : TxE K mg aG dU C CR cs) (D : Df K mg "is_item" s_is_item) (h_check_grid : Has P w K mg base (L2.CX P w) "_check_grid" 1 ["grid"] (spCheckGX K C U cs)) (his_letter : Has P w K mg base CX0 "is_letter" 1 ["value"] (spLet K)) (his_turn : Has P w K mg base CX0 "is_turn" 3 ["grid", "value"] (spIsTurn K C U)) :
    Has P w K mg base (L2.CX P w) "is_item" 4 ["grid", "value"] (spIsItemX K C U cs) := by
  refine D.hasX sc_is_item (fun vs H Q E h => ?_) (fun kV doc pm an cdv ct us hl => match us, hl with | [_, _], _ => rfl) (fun f cdv A outer s H vs Q E gd hr h => ?_)
  · obtain ⟨x, v, rfl, _⟩ := h
    rfl
  · obtain ⟨x, v, rfl, h⟩ := h
    refine ⟨_, (pss_cons
 (ps_expr (pe_callH h_check_grid gd (hr.mono (by decide)) (passes_call (takes_of rfl rfl rfl rfl) (fun _ _ _ _ e => e)) (pa_cons (pv 0) pa_nil)))
 (pss_cons
 (ps_if (PW.pt (pw_or (pt_not (pt_val (pe_callB call_isi (by exact rfl) T.zisinstance (by decide +kernel) (pa_cons (pv 1) (pa_cons (pe_bltn (v := .ty "tuple") (by exact rfl) T.ztuple (by decide +kernel) rfl) pa_nil))))) (pw_or1 (pt_cmpR op_ne (pe_callB call_len_seq (by exact rfl) T.zlen PySem.boot_len (pa_cons (pv 1) pa_nil)) pe_int (nomark _))))) (pss_one
 (ps_ret pe_bl)) pss_nil)
 (pss_one
 (ps_ret (pe_and (pe_callH his_letter gd (hr.mono (by decide)) pass0 (pa_cons (pe_ix ix_tup (pv 1) pe_int (fun _ _ => rfl)) pa_nil)) (pe_one (pe_callH his_turn gd (hr.mono (by decide)) pass0 (pa_cons (pv 0) (pa_cons (pe_ix ix_tup (pv 1) pe_int (fun _ _ => rfl)) pa_nil))))))))), ?_⟩
    dsimp only [cxOf]
    rcases h with ⟨g, t, d, rfl, hg, hx, mild, q⟩ | ⟨no, e⟩
    case inr => exact ⟨_, rfl, x, rfl, .inr ⟨no, e⟩⟩
    refine ⟨_, rfl, _, rfl, .inl ⟨g, t, rfl, hg, ?_⟩⟩
    refine ⟨_, rfl, _, _, _, _, _, rfl, .ty _, hx.of, kit_tup _, _, rfl, ?_⟩
    cases d with
    | tuple ds =>
      obtain ⟨a, xs, rfl, hs, l⟩ := dTup hx.tup
      have ln := dLen l
      refine iteF ⟨_, rfl, a, xs, rfl, .inr hs, rfl, _, rfl, ?_⟩
      by_cases h2 : ds.length = 2
      · match ds, h2, l with
        | [d1, d2], _, l =>
          cases l with
          | cons l1 l2 => cases l2 with
            | cons l3 l4 =>
              cases l4
              rename_i u v
              have e : isItemD t (.tuple [d1, d2]) = (isLetD d1 && isTurnD t d2) := rfl
              rw [e] at q
              refine iteF ⟨_, rfl, a, _, _, u, rfl, rfl, hs, atI_nat (j := 0) rfl, u, d1, rfl, l1, (fun y hy => mild.2 d1 (by simp) y hy), _, rfl, ?_⟩
              cases b : isLetD d1 with
              | true =>
                rw [b, Bool.true_and] at q
                exact iteT ⟨_, rfl, _, rfl, a, _, _, v, rfl, rfl, hs, atI_nat (j := 1) rfl, g, t, v, d2, rfl, hg, l3, q⟩
              | false =>
                rw [b, Bool.false_and] at q
                exact iteF q
      · rw [item_not h2] at q
        have z : (!decide (V.int (xs.length : Int) = V.int 2)) = true := by rw [decide_eq_false (fun z => h2 (by injection z with z; omega))]; rfl
        show if (!decide (V.int (xs.length : Int) = V.int 2)) = true then _ else _
        rw [z]
        exact iteT q
    | _ => exact iteT (iteT q)
theorem h_is_rowX (T : TxE K mg aG dU C CR cs) (D : Df K mg "is_row" s_is_row) (h_check_grid : Has P w K mg base (L2.CX P w) "_check_grid" 1 ["grid"] (spCheckGX K C U cs)) (his_count : Has P w K mg base CX0 "is_count" 2 ["value"] (spIsCount K)) (his_item : Has P w K mg base CX0 "is_item" 4 ["grid", "value"] (spIsItem K C U)) :
    HasK P w K mg base (L2.CX P w) "is_row" 5 ["grid", "value", "least"] 2 ["least"] (spIsRowX K C U cs) := by
  refine D.hasKX sc_is_row (fun vs H Q E h => ?_) (fun kV doc pm an cdv ct us ws h1 h2 => match us, ws, h1, h2 with | [_, _], [_], _, _ => rfl) (fun f cdv A outer s H vs Q E gd hr h => ?_)
  · obtain ⟨x, v, n, k, rfl, _⟩ := h
    rfl
  · obtain ⟨x, v, nv, k, rfl, on, h⟩ := h
    refine ⟨_, (pss_cons
 (ps_expr (pe_callH h_check_grid gd (hr.mono (by decide)) (passes_call (takes_of rfl rfl rfl rfl) (fun _ _ _ _ e => e)) (pa_cons (pv 0) pa_nil)))
 (pss_cons
 (ps_if (pt_not (pt_val (pe_callH his_count gd (hr.mono (by decide)) pass0 (pa_cons (pv 2) pa_nil)))) (pss_one
 (ps_raise rfl (takes_of rfl rfl rfl rfl) (pmk_err T.eInvalidNumber hr (pa_cons (pv 2) pa_nil)))) pss_nil)
 (pss_cons
 (ps_if (PW.pt (pw_or (pt_not (pt_val (pe_callB call_isi (by exact rfl) T.zisinstance (by decide +kernel) (pa_cons (pv 1) (pa_cons (pe_bltn (v := .ty "tuple") (by exact rfl) T.ztuple (by decide +kernel) rfl) pa_nil))))) (pw_or (pt_cmpR op_lt (pe_callB call_len_seq (by exact rfl) T.zlen PySem.boot_len (pa_cons (pv 1) pa_nil)) (pv 2) (nomark _)) (pw_or1 (pt_cmpR op_gt (pe_callB call_len_seq (by exact rfl) T.zlen PySem.boot_len (pa_cons (pv 1) pa_nil)) (pe_globV T.gMAX_ITEMS) (nomark _)))))) (pss_one
 (ps_ret pe_bl)) pss_nil)
 (pss_one
 (ps_ret (pe_callB (cr_all rfl) (by exact rfl) T.zall (by decide +kernel) (pa_cons (pe_lc (own := [("item", 3)]) (g := gName 3) (tt := tYes) (by rfl) sc_is_row.nd (pi_tup (pv 1)) (blkOk_by (own := [("item", 3)]) (N := N_is_row) (sc := defScope s_is_row) (by decide +kernel)) (fun _ _ _ _ _ => pg_name (i := 3) sc_is_row.nd rfl (Or.inl rfl)) (fun _ _ _ _ _ => pts_nil) (fun _ _ _ _ _ => (pe_callH his_item gd (hr.mono (by decide)) pass0 (pa_cons (pv 0) (pa_cons (pv 3) pa_nil))))) pa_nil))))))), ?_⟩
    dsimp only [cxOf]
    rcases h with ⟨no, e⟩ | ⟨g, t, rfl, hg, bad, good⟩
    · exact ⟨_, rfl, x, rfl, .inr ⟨no, e⟩⟩
    refine ⟨_, rfl, _, rfl, .inl ⟨g, t, rfl, hg, ?_⟩⟩
    refine ⟨_, rfl, _, _, rfl, on, _, rfl, ?_⟩
    cases cn : isCountV nv with
    | false => exact if_nf ⟨_, rfl, _, rfl, fun d nd => bad cn d H same_rfl nd⟩
    | true =>
    obtain ⟨n, rfl⟩ : ∃ n, nv = .int n := by cases nv <;> first | exact ⟨_, rfl⟩ | (cases (show false = true from cn))
    obtain ⟨d, hx, mild, q⟩ := good n rfl cn
    refine (iteF ?_ : if (!true) = true then _ else _)
    refine ⟨_, rfl, _, _, _, _, _, rfl, .ty _, hx.of, kit_tup _, _, rfl, ?_⟩
    cases d with
    | tuple ds =>
      obtain ⟨m1, m2⟩ := mild ds rfl
      obtain ⟨a, xs, rfl, hs, l⟩ := dTup hx.tup
      have ln := dLen l
      have eR : isRowD t n (.tuple ds) = ((decide (n ≤ (ds.length : Int)) && decide (ds.length ≤ 12)) && ds.all (isItemD t)) := rfl
      rw [eR] at q
      refine iteF ⟨_, rfl, a, xs, rfl, .inr hs, _, rfl, _, _, rfl, rfl, _, rfl, ?_⟩
      by_cases c1 : n ≤ (ds.length : Int)
      · rw [decide_eq_false (show ¬ (xs.length : Int) < n by omega)]
        rw [decide_eq_true c1, Bool.true_and] at q
        refine iteF ⟨_, rfl, a, xs, rfl, .inr hs, _, _, rfl, rfl, _, rfl, ?_⟩
        by_cases c2 : ds.length ≤ 12
        · rw [decide_eq_false (show ¬ (12 : Int) < (xs.length : Int) by omega)]
          rw [decide_eq_true c2, Bool.true_and] at q
          refine iteF ?_
          refine ⟨_, rfl, a, rfl, ⟨_, hs⟩, fun D hD => lc_tup (a := a) (xs := xs) (fun i' H' => Same H H' ∧ H' D = some (.lst (((ds.take i').map (isItemD t)).map V.bl))) ⟨Same.new hD, upd_same⟩ (fun i' H' _ h => sqT_same hs h.1) ?_ ?_⟩
          · rintro i' x H' hx ⟨s', hacc⟩
            obtain ⟨d, hd, dx⟩ := dAt l hx
            refine ⟨rfl, ?_⟩
            simp only [tYes, if_true]
            refine ⟨_, rfl, _, rfl, g, t, x, d, rfl, hg.same s', dp_same s' dx, m2 d (List.mem_of_getElem? hd), ?_⟩
            refine ⟨_, hacc, ?_, Same.over s' hD _, ?_⟩
            · rw [List.length_map, List.length_map, List.length_take, sizeLine_eq]
              omega
            · rw [upd_same, List.take_add_one, hd, List.map_append, List.map_append]
              rfl
          rintro Hc ⟨sc, hacc⟩
          rw [ln, List.take_length] at hacc
          refine ⟨D, _, rfl, SqL.of hacc, ?_⟩
          rw [show (ds.map (isItemD t)).all id = ds.all (isItemD t) by rw [List.all_map]; rfl]
          exact q _ sc
        · rw [decide_eq_true (show (12 : Int) < (xs.length : Int) by omega)]
          rw [decide_eq_false c2, Bool.false_and] at q
          exact iteT (q _ same_rfl)
      · rw [decide_eq_true (show (xs.length : Int) < n by omega)]
        rw [decide_eq_false c1, Bool.false_and, Bool.false_and] at q
        exact iteT (iteT (q _ same_rfl))
    | _ => exact iteT (iteT (q _ same_rfl))
end
end K11
namespace K11
open PySem PySem.Spec PyProof.Rows L2 GL SkE PySem.GLE LamX
abbrev s_Rule_from_text : Stmt := inClass (topS 39) 1
abbrev N_Rule_from_text : List Str := ["cls", "grid", "text", "row"]
theorem sc_Rule_from_text : FnScope N_Rule_from_text ["cls", "grid", "text"] (defScope s_Rule_from_text) := ⟨rfl, rfl, rfl, by decide +kernel, rfl, by decide +kernel, by decide +kernel⟩
def strK : PyData → Bool
  | .str _ => true
  | _ => false
theorem kit_str {K : PySem.W.Frag} (d : PyData) : PySem.W.kitOne K (.type (kdD d).nm) (.type "str") = some (strK d) := by
  cases d
  · show PySem.W.kitOne K (.type (Kd.nm .non)) (.type "str") = some false
    exact kit_ty (by decide +kernel)
  · show PySem.W.kitOne K (.type (Kd.nm .bl)) (.type "str") = some false
    exact kit_ty (by decide +kernel)
  · show PySem.W.kitOne K (.type (Kd.nm .int)) (.type "str") = some false
    exact kit_ty (by decide +kernel)
  · show PySem.W.kitOne K (.type (Kd.nm .str)) (.type "str") = some true
    exact kit_ty (by decide +kernel)
  · show PySem.W.kitOne K (.type (Kd.nm .lst)) (.type "str") = some false
    exact kit_ty (by decide +kernel)
  · show PySem.W.kitOne K (.type (Kd.nm .tup)) (.type "str") = some false
    exact kit_ty (by decide +kernel)
  · show PySem.W.kitOne K (.type (Kd.nm .dct)) (.type "str") = some false
    exact kit_ty (by decide +kernel)
/-- what no row leaves -/
def BadP (c : Cs) (H : Hp) (E : XK) : Prop := ∀ d H', Same H H' → H' d = none → E (.ref c.P) (some d) (upd H' d (.xd [("number", .non)]))
/-- a value that is read: a text, or another value -/
def Src (K : PySem.W.Frag) (H : Hp) (x : V) : Option Str → Prop
  | some a => x = .str a ∧ a.length ≤ 1000
  | none => (∃ d, Dp K H x d ∧ strK d = false) ∨ ∃ q, x = .ref q ∧ H q = some (.dK [])
def rowS : Option Str → Option RowT
  | some a => rowIn a
  | none => none
theorem Src.kit {K : PySem.W.Frag} {H : Hp} {x : V} : ∀ {o : Option Str}, Src K H x o → ∃ t, TyX K H x t ∧ PySem.W.kitOne K t (.type "str") = some o.isSome
  | some a, h => ⟨_, by rw [h.1]; exact dOf (.str a), kit_str (.str a)⟩
  | none, .inl ⟨d, h, n⟩ => ⟨_, dOf h, by rw [kit_str, n]; rfl⟩
  | none, .inr ⟨q, e, h⟩ => ⟨_, by rw [e]; exact Of.dct h, kit_ty (by decide +kernel)⟩
theorem Src.same {K : PySem.W.Frag} {H H' : Hp} {x : V} (s : Same H H') : ∀ {o : Option Str}, Src K H x o → Src K H' x o
  | some _, h => h
  | none, .inl ⟨d, h, n⟩ => .inl ⟨d, dp_same s h, n⟩
  | none, .inr ⟨q, e, h⟩ => .inr ⟨q, e, s _ _ h⟩
theorem itemD_of {t : Bool} : ∀ {d : PyData}, isItemD t d = true → ∃ it, d = itemD it
  | .tuple [.str y, .int n], _ => ⟨(y, n), rfl⟩
  | .tuple [.str y, .none], h => by simp [isItemD, isTurnD] at h
  | .tuple [.str y, .bool _], h => by simp [isItemD, isTurnD] at h
  | .tuple [.str y, .str _], h => by simp [isItemD, isTurnD] at h
  | .tuple [.str y, .list _], h => by simp [isItemD, isTurnD] at h
  | .tuple [.str y, .tuple _], h => by simp [isItemD, isTurnD] at h
  | .tuple [.str y, .dict _], h => by simp [isItemD, isTurnD] at h
  | .tuple [.none, _], h => by simp [isItemD, isLetD] at h
  | .tuple [.bool _, _], h => by simp [isItemD, isLetD] at h
  | .tuple [.int _, _], h => by simp [isItemD, isLetD] at h
  | .tuple [.list _, _], h => by simp [isItemD, isLetD] at h
  | .tuple [.tuple _, _], h => by simp [isItemD, isLetD] at h
  | .tuple [.dict _, _], h => by simp [isItemD, isLetD] at h
  | .tuple [], h => by simp [isItemD] at h
  | .tuple [_], h => by simp [isItemD] at h
  | .tuple (_ :: _ :: _ :: _), h => by simp [isItemD] at h
  | .none, h => by simp [isItemD] at h
  | .bool _, h => by simp [isItemD] at h
  | .int _, h => by simp [isItemD] at h
  | .str _, h => by simp [isItemD] at h
  | .list _, h => by simp [isItemD] at h
  | .dict _, h => by simp [isItemD] at h
theorem itemsD_of {t : Bool} : ∀ {ds : List PyData}, (∀ d ∈ ds, isItemD t d = true) → ∃ r : RowT, ds = r.map itemD
  | [], _ => ⟨[], rfl⟩
  | d :: ds, h => by
    obtain ⟨it, rfl⟩ := itemD_of (h d (List.mem_cons_self ..))
    obtain ⟨r, rfl⟩ := itemsD_of (fun x hx => h x (List.mem_cons_of_mem _ hx))
    exact ⟨it :: r, rfl⟩
theorem rowD_of {t : Bool} {n : Int} {d : PyData} (h : isRowD t n d = true) : ∃ r, d = rowD r ∧ n ≤ (r.length : Int) ∧ RowS t r := by
  cases d with
  | tuple ds =>
    have z : ((decide (n ≤ (ds.length : Int)) && decide (ds.length ≤ 12)) && ds.all (isItemD t)) = true := h
    rw [Bool.and_eq_true, List.all_eq_true] at z
    obtain ⟨r, rfl⟩ := itemsD_of z.2
    exact ⟨r, rfl, isRow_row.mp h⟩
  | _ => cases h
theorem two_count : isCountV (.int 2) = true := by
  rw [show isCountV (.int 2) = (isIntV (.int 2) && decide ((0 : Int) ≤ 2)) from rfl, short_of (by decide)]
  rfl
theorem one_count : isCountV (.int 1) = true := by
  rw [show isCountV (.int 1) = (isIntV (.int 1) && decide ((0 : Int) ≤ 1)) from rfl, short_of (by decide)]
  rfl
def spRInitX (K : PySem.W.Frag) (C : Addr) (U : Bool → Addr) (CR : Addr) (c : Cs) : Sp := fun vs H Q E => ∃ p dx gx x, vs = [.ref p, gx, x] ∧ H p = some (.ins CR dx []) ∧ ((NoGrid K C H gx ∧ E (.ref c.G) none H) ∨ ∃ g t d, gx = .ref g ∧ GridAt C U H g t ∧ VD K H x d ∧ MildD d ∧ (isRowD t 2 d = false → Raises H c.R E) ∧
  ∀ r, d = rowD r → RowOk t r → ∀ H', (∀ b o, b ≠ p → H b = some o → H' b = some o) → RuleAt K C U CR H' p t r → Q .non H')
def spFromX (K : PySem.W.Frag) (C : Addr) (U : Bool → Addr) (CR : Addr) (c : Cs) : Sp := fun vs H Q E => ∃ gx x o, vs = [.ref CR, gx, x] ∧ Src K H x o ∧ ((NoGrid K C H gx ∧ E (.ref c.G) none H) ∨ ∃ g t, gx = .ref g ∧ GridAt C U H g t ∧ ((¬ ∃ r, rowS o = some r ∧ RowOk t r) → BadP c H E) ∧ ∀ r, rowS o = some r → RowOk t r → RNew K C U CR H t r Q)
section
variable {P : Program} {w : World} {K : PySem.W.Frag} {mg : Str → Option Value} {base : Heap}
variable {aG dU C CR : Addr} {U : Bool → Addr} {us : Bool → List Addr} {cs : Cs}
theorem h_rinitX (T : TxE K mg aG dU C CR cs) (rc : RCls K CR) (D : Dc K CR "Rule.__init__" s_Rule_WinitW) (h_check_grid : Has P w K mg base (L2.CX P w) "_check_grid" 1 ["grid"] (spCheckGX K C U cs)) (his_row : HasK P w K mg base (L2.CX P w) "is_row" 5 ["grid", "value", "least"] 2 ["least"] (spIsRowX K C U cs)) (htrail : Has P w K mg base CX0 "trail" 2 ["grid", "directions"] (spTrail K C U)) (m : mg "Rule" = some (.ref CR)) :
    HasGX P w K mg base (L2.CX P w) "Rule" CR 6 ["self", "grid", "items"] (spRInitX K C U CR cs) := by
  refine D.hasGX m sc_Rule_WinitW (fun vs H Q E h => ?_) (fun kV doc pm an cdv ct us hl => match us, hl with | [_, _, _], _ => rfl) (fun f cdv A outer s H vs Q E gd hr h => ?_)
  · obtain ⟨p, dx, gx, x, rfl, _⟩ := h
    rfl
  · obtain ⟨p, dx, gx, x, rfl, hp, h⟩ := h
    refine ⟨_, (pss_cons
 (ps_expr (pe_callH h_check_grid gd (hr.mono (by decide)) (passes_call (takes_of rfl rfl rfl rfl) (fun _ _ _ _ e => e)) (pa_cons (pv 1) pa_nil)))
 (pss_cons
 (ps_if (pt_not (pt_val (pe_callKH his_row gd (hr.mono (by decide)) (passes_call (takes_of rfl rfl rfl rfl) (fun _ _ _ _ e => e)) (pa_cons (pv 1) (pa_cons (pv 2) pa_nil)) (pk_cons (pe_globV T.gMIN_ITEMS) pk_nil)))) (pss_one
 (ps_raise rfl (takes_of rfl rfl rfl rfl) (pmk_own PySem.F.excBase_ValueError T.mInvalidRule.q T.mInvalidRule.g T.mInvalidRule.k (raises_own T.mInvalidRule.b T.mInvalidRule.t) rfl))) pss_nil)
 (pss_cons
 (ps_set (i := 3) sc_Rule_WinitW.nd rfl (Or.inl rfl) (pe_callH htrail gd (hr.mono (by decide)) pass0 (pa_cons (pv 1) (pa_cons (pe_lc (own := [("letter", 4), ("turn", 5)]) (g := (gTup K 2 (gCons (gName 4) (gCons (gName 5) gNil)))) (tt := tYes) (by rfl) sc_Rule_WinitW.nd (pi_tup (pv 2)) (blkOk_by (own := [("letter", 4), ("turn", 5)]) (N := N_Rule_WinitW) (sc := defScope s_Rule_WinitW) (by decide +kernel)) (fun _ _ _ _ _ => (pg_tupK (K0 := K) (n := 2) (by exact rfl) (by rfl) (pgs_cons (pg_name (i := 4) sc_Rule_WinitW.nd rfl (Or.inl rfl)) (pgs_cons (pg_name (i := 5) sc_Rule_WinitW.nd rfl (Or.inl rfl)) pgs_nil)))) (fun _ _ _ _ _ => pts_nil) (fun _ _ _ _ _ => (pv 5))) pa_nil))))
 (pss_cons
 (ps_fld (pv 0) (pv 1) rfl)
 (pss_cons
 (ps_fld (pv 0) (pv 2) rfl)
 (pss_cons
 (ps_fld (pv 0) (pe_callTy call_tuple_of (by exact rfl) T.ztuple (by decide +kernel) (pa_cons (pe_callB call_sortedT (by exact rfl) T.zsorted (by decide +kernel) (pa_cons (pe_scT (own := [("letter", 4), ("turn", 5)]) (g := (gTup K 2 (gCons (gName 4) (gCons (gName 5) gNil)))) (tt := tYes) sc_Rule_WinitW.nd (pi_tup (pv 2)) (blkOk_by (own := [("letter", 4), ("turn", 5)]) (N := N_Rule_WinitW) (sc := defScope s_Rule_WinitW) (by decide +kernel)) (fun _ _ _ _ _ => (pg_tupK (K0 := K) (n := 2) (by exact rfl) (by rfl) (pgs_cons (pg_name (i := 4) sc_Rule_WinitW.nd rfl (Or.inl rfl)) (pgs_cons (pg_name (i := 5) sc_Rule_WinitW.nd rfl (Or.inl rfl)) pgs_nil)))) (fun _ _ _ _ _ => pts_nil) (fun _ _ _ _ _ => (pv 4))) pa_nil)) pa_nil)) rfl)
 (pss_cons
 (ps_fld (pv 0) (pe_callTy call_tuple_of (by exact rfl) T.ztuple (by decide +kernel) (pa_cons (pe_slice sl_list (pv 3) po_none (po_some (pe_un un_neg pe_int))) pa_nil)) rfl)
 (pss_one
 (ps_fld (pv 0) (pe_ix ix_list (pv 3) (pe_un un_neg pe_int) (fun _ _ => rfl)) rfl))))))))), ?_⟩
    dsimp only [cxOf]
    rcases h with ⟨no, e⟩ | ⟨g, t, d, rfl, hg, hv, mild, bad, good⟩
    · exact ⟨_, rfl, gx, rfl, .inr ⟨no, e⟩⟩
    refine ⟨_, rfl, _, rfl, .inl ⟨g, t, rfl, hg, ?_⟩⟩
    refine ⟨_, rfl, _, rfl, rfl, rfl, _, _, _, _, rfl, .int, .inr ⟨g, t, rfl, hg, (fun z => by rw [two_count] at z; cases z), fun i ei _ => ?_⟩⟩
    cases ei
    refine ⟨d, hv, mild, fun H1 s1 => ?_⟩
    cases b : isRowD t 2 d with
    | false => exact ⟨_, rfl, if_nf (bad b H1 s1)⟩
    | true =>
    obtain ⟨r, rfl, h2, hs2⟩ := rowD_of b
    have ok : RowOk t r := ⟨by omega, hs2.most, hs2.all⟩
    have k := good r rfl ok
    have hx : Dp K H x (rowD r) := hv.tup
    clear good bad hv
    obtain ⟨a, xs, rfl, hs, l⟩ := dTup hx
    have ln := rowLen l
    refine ⟨_, rfl, (iteF ?_ : if (!true) = true then _ else _)⟩
    have few : r.length ≤ 1000 := Nat.le_trans ok.most (by decide)
    refine ⟨_, rfl, _, rfl, a, rfl, ⟨_, sqT_same hs s1⟩, fun D hD => lc_row (fun it => .int it.2) (sqT_same hs s1) (dps_same s1 l) few hD (fun _ _ => rfl) (fun n it H' _ _ _ Q q => ⟨_, rfl, q _ _ same_rfl (.int _)⟩) (fun H2 s2 dp => ?_)⟩
    obtain ⟨_, ys, e0, hys, lys⟩ := dLst dp
    cases e0
    have ey : ys = (r.map (·.2)).map V.int := dInts' (by rw [List.map_map]; exact lys)
    subst ey
    refine ⟨g, t, D, r.map (fun it : Str × Int => it.2), rfl, (hg.same s1).same s2, hys, ?_, by rw [List.length_map]; exact few, fun L H3 s3 dL => ?_⟩
    · intro n hn
      obtain ⟨it, hit, rfl⟩ := List.mem_map.mp hn
      exact ⟨(ok.all it hit).a, (ok.all it hit).b⟩
    have s13 := (s1.trans s2).trans s3
    have hp3 := s13 _ _ hp
    have hg3 := hg.same s13
    obtain ⟨dg, eg⟩ := id hg3
    have gp : g ≠ p := fun z => by rw [z, hp3] at eg; cases eg
    have M1 : Dp K (wo p H3) (.ref a) (rowD r) := dp_wo hp3 (dp_same s13 hx)
    have M2 := dp_wo hp3 dL
    have M3 : GridAt C U (wo p H3) g t := ⟨dg, wo_at eg gp⟩
    refine ⟨_, rfl, _, rfl, _, _, _, _, rfl, hp3, rc.cls, rc.grid, by show 0 < 1000; decide, ?_⟩
    refine ⟨_, rfl, _, rfl, _, _, _, _, rfl, upd_same, rc.cls, rc.row, by show 1 < 1000; decide, ?_⟩
    have u2 : ∀ {o1 o2 : HO}, Same (wo p H3) (upd (upd H3 p o1) p o2) := fun {o1 o2} => by
      have z := wo_under (H := upd H3 p o1) (D := p) (o := o2)
      rw [wo_upd] at z
      exact z
    obtain ⟨_, xs', e1, hs', l'⟩ := dTup M1
    cases e1
    have Su := u2 (o1 := .ins CR dx (putF "grid" (V.ref g) [])) (o2 := .ins CR dx (putF "row" (V.ref a) (putF "grid" (V.ref g) [])))
    have e5 : upd (upd H3 p (.ins CR dx (putF "grid" (V.ref g) []))) p (.ins CR dx (putF "row" (V.ref a) (putF "grid" (V.ref g) []))) p = some (.ins CR dx (putF "row" (V.ref a) (putF "grid" (V.ref g) []))) := upd_same
    have keep5 : ∀ b o, b ≠ p → H b = some o → upd (upd H3 p (.ins CR dx (putF "grid" (V.ref g) []))) p (.ins CR dx (putF "row" (V.ref a) (putF "grid" (V.ref g) []))) b = some o := fun b o n e => by rw [upd_ne n, upd_ne n]; exact s13 _ _ e
    generalize upd (upd H3 p (.ins CR dx (putF "grid" (V.ref g) []))) p (.ins CR dx (putF "row" (V.ref a) (putF "grid" (V.ref g) []))) = H5 at *
    have Mp : wo p H3 p = none := wo_D
    generalize wo p H3 = M at *
    refine ⟨_, rfl, a, rfl, ⟨_, sqT_same hs' Su⟩, fun D2 hD2 => sc_row (sqT_same hs' Su) (dps_same Su l') few hD2 (fun _ _ => rfl) (fun it H' Q q => ⟨_, rfl, q⟩) (fun H6 s6 e6 => ?_)⟩
    have l64 := setS_len (r.map (fun it : Str × Int => it.1))
    rw [List.length_map] at l64
    refine ⟨D2, _, rfl, e6, by have := ok.most; omega, fun ys p2 perm srt n2 => ?_⟩
    refine ⟨p2, _, rfl, .inl ⟨SqL.of upd_same, fun p3 n3 => ?_⟩⟩
    have s7 := s6.trans ((Same.new (o := .lst (ys.map V.str)) n2).trans (Same.new (o := .tup (ys.map V.str)) n3))
    have e7 := s7 _ _ e5
    have d7 : Dp K (upd (upd H6 p2 (.lst (ys.map V.str))) p3 (.tup (ys.map V.str))) (.ref p3) (.tuple (ys.map PyData.str)) := .tup (SqT.of upd_same) dStrs
    generalize upd (upd H6 p2 (.lst (ys.map V.str))) p3 (.tup (ys.map V.str)) = H7 at *
    have M4 := dp_wo e7 d7
    have Sm7 : Same M (wo p H7) := fun b o e => wo_at (s7 _ _ (Su _ _ e)) (fun z => by rw [z, Mp] at e; cases e)
    refine ⟨_, rfl, _, _, _, _, rfl, e7, rc.cls, rc.letters, by show 2 < 1000; decide, ?_⟩
    have F7 : Same (wo p H7) (upd H7 p (.ins CR dx (putF "letters" (V.ref p3) (putF "row" (V.ref a) (putF "grid" (V.ref g) []))))) := wo_under
    have e8 : upd H7 p (.ins CR dx (putF "letters" (V.ref p3) (putF "row" (V.ref a) (putF "grid" (V.ref g) [])))) p = some (.ins CR dx (putF "letters" (V.ref p3) (putF "row" (V.ref a) (putF "grid" (V.ref g) [])))) := upd_same
    have keep8 : ∀ b o, b ≠ p → H b = some o → upd H7 p (.ins CR dx (putF "letters" (V.ref p3) (putF "row" (V.ref a) (putF "grid" (V.ref g) [])))) b = some o := fun b o n e => by rw [upd_ne n]; exact s7 _ _ (keep5 b o n e)
    generalize upd H7 p (.ins CR dx (putF "letters" (V.ref p3) (putF "row" (V.ref a) (putF "grid" (V.ref g) [])))) = H8 at *
    have Mp7 : wo p H7 p = none := wo_D
    generalize wo p H7 = M7 at *
    replace M1 := dp_same Sm7 M1
    replace M2 := dp_same Sm7 M2
    replace M3 := M3.same Sm7
    obtain ⟨_, zs, e2, hz, lz⟩ := dLst M2
    cases e2
    have lzs : zs.length = r.length + 1 := by rw [dLen lz, List.length_map, path_len, List.length_map]
    refine ⟨_, rfl, _, rfl, _, rfl, L, zs, rfl, sqL_same hz F7, fun p4 n4 => ?_⟩
    rw [show cutV zs none (some (-1)) = zs.take r.length from cut_init lzs]
    refine ⟨p4, _, rfl, .inl ⟨SqL.of upd_same, fun p5 n5 => ?_⟩⟩
    have s9 := (Same.new (o := .lst (zs.take r.length)) n4).trans (Same.new (o := .tup (zs.take r.length)) n5)
    have e9 := s9 _ _ e8
    have M5 : Dp K M7 (.ref L) (.list ((path t (0, 0) (r.map (fun it : Str × Int => it.2))).map ptD)) := .lst hz lz
    have d9 : Dp K (upd (upd H8 p4 (.lst (zs.take r.length))) p5 (.tup (zs.take r.length))) (.ref p5) (.tuple ((starts t r).map ptD)) := by
      refine .tup (SqT.of upd_same) ?_
      have z := dps_same (F7.trans s9) (dTake r.length lz)
      rw [← List.map_take] at z
      unfold starts
      rw [List.dropLast_eq_take, path_len, List.length_map]
      exact z
    generalize upd (upd H8 p4 (.lst (zs.take r.length))) p5 (.tup (zs.take r.length)) = H9 at *
    have M6 := dp_wo e9 d9
    have Sm9 : Same M7 (wo p H9) := fun b o e => wo_at (s9 _ _ (F7 _ _ e)) (fun z => by rw [z, Mp7] at e; cases e)
    refine ⟨_, rfl, _, _, _, _, rfl, e9, rc.cls, rc.starts, by show 3 < 1000; decide, ?_⟩
    have F9 : Same (wo p H9) (upd H9 p (.ins CR dx (putF "starts" (V.ref p5) (putF "letters" (V.ref p3) (putF "row" (V.ref a) (putF "grid" (V.ref g) [])))))) := wo_under
    obtain ⟨v, hv1, hv2⟩ := path_last t (r.map (fun it : Str × Int => it.2)) (0, 0)
    rw [List.length_map] at hv2
    obtain ⟨y, hy, dy⟩ := dAt' lz (i := r.length) (d := ptD v) (by rw [List.getElem?_map, hv2]; rfl)
    refine ⟨_, rfl, _, rfl, L, _, _, _, rfl, rfl, sqL_same hz (Sm9.trans F9), atI_m1 lzs hy, ?_⟩
    refine ⟨_, rfl, _, _, _, _, rfl, upd_same, rc.cls, rc.end_, by show 4 < 1000; decide, k _ (fun b o n e => by rw [upd_ne n, upd_ne n]; exact s9 _ _ (keep8 b o n e)) ?_⟩
    have F10 : ∀ {o1 o2 : HO}, Same (wo p H9) (upd (upd H9 p o1) p o2) := fun {o1 o2} => by
      have z := wo_under (H := upd H9 p o1) (D := p) (o := o2)
      rw [wo_upd] at z
      exact z
    refine ⟨dx, g, .ref a, .ref p3, .ref p5, y, ys, ?_, (M3.same Sm9).same F10, ok, dp_same F10 (dp_same Sm9 M1), ⟨perm, srt⟩, dp_same F10 (dp_same Sm9 M4), dp_same F10 M6, ?_⟩
    · rw [upd_same]
      rfl
    · unfold sumOf
      rw [show (List.map (fun x : Str × Int => x.2) r) = r.map (fun it : Str × Int => it.2) from rfl, hv1]
      exact dp_same F10 (dp_same Sm9 dy)

theorem h_write_rowX (T : TxE K mg aG dU C CR cs) (D : Df K mg "write_row" s_write_row) (hGrid : HasC P w K mg base "Grid" C 1 ["self", "name"] (spInit C U)) (his_row : HasK P w K mg base (L2.CX P w) "is_row" 5 ["grid", "value", "least"] 2 ["least"] (spIsRowX K C U cs)) (hrow_text : Has P w K mg base CX0 "row_text" 1 ["items"] (spRowText K)) :
    Has P w K mg base (L2.CX P w) "write_row" 6 ["items"] (spWriteX K cs) := by
  refine D.hasX sc_write_row (fun vs H Q E h => ?_) (fun kV doc pm an cdv ct us hl => match us, hl with | [_], _ => rfl) (fun f cdv A outer s H vs Q E gd hr h => ?_)
  · obtain ⟨x, d, rfl, _⟩ := h
    rfl
  · obtain ⟨x, d, rfl, hx, mild, bad, good⟩ := h
    refine ⟨_, (pss_cons
 (ps_if (pt_not (pt_val (pe_callKH his_row gd (hr.mono (by decide)) (passes_call (takes_of rfl rfl rfl rfl) (fun _ _ _ _ e => e)) (pa_cons (pe_makeH hGrid (hr.mono (by decide)) pass0 (pa_cons pe_str pa_nil)) (pa_cons (pv 0) pa_nil)) (pk_cons pe_int pk_nil)))) (pss_one
 (ps_raise rfl (takes_of rfl rfl rfl rfl) (pmk_own PySem.F.excBase_ValueError T.mInvalidRule.q T.mInvalidRule.g T.mInvalidRule.k (raises_own T.mInvalidRule.b T.mInvalidRule.t) rfl))) pss_nil)
 (pss_one
 (ps_ret (pe_callH hrow_text gd (hr.mono (by decide)) pass0 (pa_cons (pv 0) pa_nil))))), ?_⟩
    dsimp only [cxOf]
    refine go_grid (t := true) fun g H2 s2 gr => ⟨_, rfl, rfl, rfl, _, _, _, _, rfl, .int, .inr ⟨g, true, rfl, gr, (fun z => by rw [one_count] at z; cases z), fun i ei _ => ?_⟩⟩
    cases ei
    refine ⟨d, hx.same s2, mild, fun H3 s3 => ?_⟩
    cases b : isRowD true 1 d with
    | false => exact ⟨_, rfl, if_nf (bad b H3 (s2.trans s3))⟩
    | true =>
      obtain ⟨r, rfl, h2, hs2⟩ := rowD_of b
      refine ⟨_, rfl, (iteF ?_ : if (!true) = true then _ else _)⟩
      exact ⟨_, rfl, x, r, true, rfl, (hx.same (s2.trans s3)).tup, hs2, fun H4 s4 => good b _ H4 ((s2.trans s3).trans s4)⟩
theorem h_from_textX (T : TxE K mg aG dU C CR cs) (D : Dcm K CR "from_text" "Rule.from_text" s_Rule_from_text) (h_check_grid : Has P w K mg base (L2.CX P w) "_check_grid" 1 ["grid"] (spCheckGX K C U cs)) (hrow_in : Has P w K mg base CX0 "row_in" 3 ["text"] (spRowIn K)) (his_row : HasK P w K mg base (L2.CX P w) "is_row" 5 ["grid", "value", "least"] 2 ["least"] (spIsRowX K C U cs)) (hRule : HasG P w K mg base "Rule" CR 6 ["self", "grid", "items"] (spRInit K C U CR)) :
    HasCM P w K mg base (L2.CX P w) CR "from_text" 8 ["cls", "grid", "text"] (spFromX K C U CR cs) := by
  refine D.hasX sc_Rule_from_text (fun vs H Q E h => ?_) (fun kV doc pm an cdv ct us hl => match us, hl with | [_, _, _], _ => rfl) (fun f cdv A outer s H vs Q E gd hr h => ?_)
  · obtain ⟨gx, x, o, rfl, _⟩ := h
    rfl
  · obtain ⟨gx, x, o, rfl, hx, h⟩ := h
    refine ⟨_, (pss_cons
 (ps_expr (pe_callH h_check_grid gd (hr.mono (by decide)) (passes_call (takes_of rfl rfl rfl rfl) (fun _ _ _ _ e => e)) (pa_cons (pv 1) pa_nil)))
 (pss_cons
 (ps_set (i := 3) sc_Rule_from_text.nd rfl (Or.inl rfl) (pe_ifExp (pt_val (pe_callB call_isi (by exact rfl) T.zisinstance (by decide +kernel) (pa_cons (pv 2) (pa_cons (pe_bltn (v := .ty "str") (by exact rfl) T.zstr (by decide +kernel) rfl) pa_nil)))) (pe_callH hrow_in gd (hr.mono (by decide)) pass0 (pa_cons (pv 2) pa_nil)) pe_non))
 (pss_cons
 (ps_if (pt_not (pt_val (pe_callKH his_row gd (hr.mono (by decide)) (passes_call (takes_of rfl rfl rfl rfl) (fun _ _ _ _ e => e)) (pa_cons (pv 1) (pa_cons (pv 3) pa_nil)) (pk_cons (pe_globV T.gMIN_ITEMS) pk_nil)))) (pss_one
 (ps_raise rfl (takes_of rfl rfl rfl rfl) (pmk_err T.eParseError hr (pa_cons pe_non pa_nil)))) pss_nil)
 (pss_one
 (ps_ret (pe_makeV (i := 0) hRule gd (hr.mono (by decide)) pass0 (pa_cons (pv 1) (pa_cons (pv 3) pa_nil)))))))), ?_⟩
    dsimp only [cxOf]
    rcases h with ⟨no, e⟩ | ⟨g, t, rfl, hg, k0, k1⟩
    · exact ⟨_, rfl, gx, rfl, .inr ⟨no, e⟩⟩
    have none_ : rowS o = none → ¬ ∃ r, rowS o = some r ∧ RowOk t r := fun e ⟨r, e2, _⟩ => by rw [e] at e2; cases e2
    refine ⟨_, rfl, _, rfl, .inl ⟨g, t, rfl, hg, ?_⟩⟩
    obtain ⟨tx, ty, kt⟩ := hx.kit
    refine ⟨_, rfl, _, _, _, _, _, rfl, .ty _, ty, kt, _, rfl, ?_⟩
    cases o with
    | none =>
      have e0 : rowS none = none := rfl
      refine iteF ⟨_, rfl, _, rfl, rfl, rfl, _, _, _, _, rfl, .int, .inr ⟨g, t, rfl, hg, (fun z => by rw [two_count] at z; cases z), fun i ei _ => ?_⟩⟩
      cases ei
      refine ⟨.none, .inl .non, (fun ds e => by cases e), fun H3 s3 => ⟨_, rfl, ?_⟩⟩
      exact if_nf ⟨.non, rfl, fun dd nd => k0 (none_ e0) dd H3 s3 nd⟩
    | some a =>
      obtain ⟨rfl, short⟩ := hx
      refine iteT ⟨_, rfl, a, rfl, short, fun e H2 s2 => ?_, fun r e y H2 s2 dy => ?_⟩
      · refine ⟨_, rfl, _, rfl, rfl, rfl, _, _, _, _, rfl, .int, .inr ⟨g, t, rfl, hg.same s2, (fun z => by rw [two_count] at z; cases z), fun i ei _ => ?_⟩⟩
        cases ei
        refine ⟨.none, .inl .non, (fun ds e => by cases e), fun H3 s3 => ⟨_, rfl, ?_⟩⟩
        exact if_nf ⟨.non, rfl, fun dd nd => k0 (none_ e) dd H3 (s2.trans s3) nd⟩
      · have rs := (rowIn_some e).1
        refine ⟨_, rfl, _, rfl, rfl, rfl, _, _, _, _, rfl, .int, .inr ⟨g, t, rfl, hg.same s2, (fun z => by rw [two_count] at z; cases z), fun i ei _ => ?_⟩⟩
        cases ei
        refine ⟨rowD r, .inl dy, row_mild rs, fun H3 s3 => ⟨_, rfl, ?_⟩⟩
        cases b : isRowD t 2 (rowD r) with
        | false =>
          refine if_nf ⟨.non, rfl, fun dd nd => k0 (fun ⟨r', e', o⟩ => ?_) dd H3 (s2.trans s3) nd⟩
          have e' : rowIn a = some r' := e'
          rw [e] at e'
          cases e'
          rw [isRow_row.mpr ⟨by have := o.two; omega, o.s⟩] at b
          cases b
        | true =>
          obtain ⟨h2, hs⟩ := isRow_row.mp b
          have ok : RowOk t r := ⟨by omega, hs.most, hs.all⟩
          refine (iteF ?_ : if (!true) = true then _ else _)
          refine ⟨rfl, _, rfl, _, rfl, nil_intro ?_⟩
          have s23 := s2.trans s3
          refine go_rule (hg.same s23) (dp_same s3 dy) ok fun R H4 nR s4 rule => k1 r e ok R H4 (fresh_of s23 nR) (s23.trans s4) rule
end
end K11
namespace K11
open PySem PySem.Spec PyProof.Rows L2 GL SkE PySem.GLE LamX
abbrev s_Rule_drawn : Stmt := inClass (topS 39) 2
abbrev N_Rule_drawn : List Str := ["self", "direction", "many", "letter", "turn"]
theorem sc_Rule_drawn : FnScope N_Rule_drawn ["self", "direction"] (defScope s_Rule_drawn) := ⟨rfl, rfl, rfl, by decide +kernel, rfl, by decide +kernel, by decide +kernel⟩
abbrev s_Rule_renamed : Stmt := inClass (topS 39) 5
abbrev N_Rule_renamed : List Str := ["self", "letters", "letter", "turn"]
theorem sc_Rule_renamed : FnScope N_Rule_renamed ["self", "letters"] (defScope s_Rule_renamed) := ⟨rfl, rfl, rfl, by decide +kernel, rfl, by decide +kernel, by decide +kernel⟩
abbrev s_Rule_WaddW : Stmt := inClass (topS 39) 6
abbrev N_Rule_WaddW : List Str := ["self", "other"]
theorem sc_Rule_WaddW : FnScope N_Rule_WaddW ["self", "other"] (defScope s_Rule_WaddW) := ⟨rfl, rfl, rfl, by decide +kernel, rfl, by decide +kernel, by decide +kernel⟩
abbrev s_is_renaming : Stmt := topS 34
abbrev N_is_renaming : List Str := ["letters", "value", "letter"]
theorem sc_is_renaming : FnScope N_is_renaming ["letters", "value"] (defScope s_is_renaming) := ⟨rfl, rfl, rfl, by decide +kernel, rfl, by decide +kernel, by decide +kernel⟩
theorem kit_dct {K : PySem.W.Frag} : PySem.W.kitOne K (.type "dict") (.type "dict") = some true := kit_ty (by decide +kernel)
def turnR (t : Bool) (d : Int) (r : RowT) : RowT := r.map fun it => (it.1, (it.2 + d) % (num t : Int))
def nameR (f : Str → Str) (r : RowT) : RowT := r.map fun it => (f it.1, it.2)
/-- the dict of a renaming -/
def renK (f : Str → Str) (ys : List Str) : List (Key × V) := ys.map fun y => ((.inr y : Key), V.str (f y))
theorem num_six (t : Bool) : (num t : Int) ≤ 6 := by cases t <;> decide
theorem turn_row {t : Bool} {d : Int} {r : RowT} (ok : RowOk t r) : RowOk t (turnR t d r) := by
  refine ⟨by unfold turnR; rw [List.length_map]; exact ok.two, by unfold turnR; rw [List.length_map]; exact ok.most, fun x hx => ?_⟩
  obtain ⟨it, hit, rfl⟩ := List.mem_map.mp hx
  exact ⟨(ok.all it hit).l, Int.emod_nonneg _ (Int.ne_of_gt num_pos), Int.emod_lt_of_pos _ num_pos⟩
theorem name_row {t : Bool} {r : RowT} {f : Str → Str} (ok : RowOk t r) (h : ∀ it ∈ r, LetS (f it.1) = true) : RowOk t (nameR f r) := by
  refine ⟨by unfold nameR; rw [List.length_map]; exact ok.two, by unfold nameR; rw [List.length_map]; exact ok.most, fun x hx => ?_⟩
  obtain ⟨it, hit, rfl⟩ := List.mem_map.mp hx
  exact ⟨h it hit, (ok.all it hit).a, (ok.all it hit).b⟩
theorem ren_get {f : Str → Str} : ∀ {ys : List Str} {y : Str}, y ∈ ys → valV (renK f ys) (.inr y) = some (.str (f y))
  | [], y, h => by cases h
  | z :: r, y, h => by
    by_cases e : z = y
    · subst e
      exact valV_pos rfl
    · have m : y ∈ r := by
        rcases List.mem_cons.mp h with q | q
        · exact absurd q.symm e
        · exact q
      show valV (((.inr z : Key), V.str (f z)) :: renK f r) (.inr y) = _
      rw [valV_neg (fun q => e (by injection q))]
      exact ren_get m
/-- an index of a row -/
def idxOk (n : Nat) : V → Bool
  | .int i => isCountV (.int i) && decide (i < (n : Int))
  | _ => false
def spDrawnX (K : PySem.W.Frag) (C : Addr) (U : Bool → Addr) (CR : Addr) (c : Cs) : Sp := fun vs H Q E => ∃ p t r dv dd, vs = [.ref p, dv] ∧ RuleAt K C U CR H p t r ∧ Dp K H dv dd ∧ (isTurnD t dd = false → BadN c H dv E) ∧ (isTurnD t dd = true → ∀ x H', Same H H' → Q x H')
def spRItemX (K : PySem.W.Frag) (C : Addr) (U : Bool → Addr) (CR : Addr) (c : Cs) : Sp := fun vs H Q E => ∃ p t r iv k, vs = [.ref p, iv] ∧ RuleAt K C U CR H p t r ∧ Of K H iv k ∧ (idxOk r.length iv = false → BadN c H iv E) ∧ (idxOk r.length iv = true → ∀ y, Q y H)
section
variable {P : Program} {w : World} {K : PySem.W.Frag} {mg : Str → Option Value} {base : Heap}
variable {aG dU C CR : Addr} {U : Bool → Addr} {us : Bool → List Addr} {cs : Cs}
/-- a tuple of a list that was made -/
theorem tup_made {H : Hp} {D : Addr} {ds : List PyData} (h : Dp K H (.ref D) (.list ds)) : ∃ xs, SqL K H D xs ∧ ∀ p, H p = none → Dp K (upd H p (.tup xs)) (.ref p) (.tuple ds) := by
  obtain ⟨_, xs, e, hs, l⟩ := dLst h
  cases e
  exact ⟨xs, hs, fun p np => .tup (SqT.of upd_same) (dps_same (Same.new np) l)⟩
/-- a new pair beside the list that grows -/
theorem pair_made {H : Hp} {D q : Addr} {it : Str × Int} (nD : H D ≠ none) (nq : H q = none) : Dp K (wo D (upd H q (.tup [.str it.1, .int it.2]))) (.ref q) (itemD it) := itemDp (SqT.of (wo_at upd_same (fun z => by rw [z] at nq; exact nD nq)))
theorem turn_int {K : PySem.W.Frag} {H : Hp} {t : Bool} {x : V} {d : PyData} (h : Dp K H x d) (b : isTurnD t d = true) : ∃ i, x = .int i ∧ d = .int i := by
  cases h with
  | int i => exact ⟨i, rfl, rfl⟩
  | _ => cases b
theorem h_drawnX (T : TxE K mg aG dU C CR cs) (c : GCls K C) (hU : Uni K w aG dU U us) (rc : RCls K CR) (D : Dm K CR "drawn" "Rule.drawn" s_Rule_drawn) (his_turn : Has P w K mg base CX0 "is_turn" 3 ["grid", "value"] (spIsTurn K C U)) : HasM P w K mg base (L2.CX P w) CR "drawn" 4 ["self", "direction"] (spDrawnX K C U CR cs) := by
  refine D.hasX sc_Rule_drawn (fun vs H Q E h => ?_) (fun kV doc pm an cdv ct us hl => match us, hl with | [_, _], _ => rfl) (fun f cdv A outer s H vs Q E gd hr h => ?_)
  · obtain ⟨p, t, r, dv, dd, rfl, _⟩ := h
    rfl
  · obtain ⟨p, t, r, dv, dd, rfl, ⟨dx, g, x, ll, ss, ee, ys, e1, hg, ok, hx, _⟩, hd, bad, good⟩ := h
    refine ⟨_, (pss_cons
 (ps_if (pt_not (pt_val (pe_callH his_turn gd (hr.mono (by decide)) pass0 (pa_cons (pe_fld (pv 0) rfl) (pa_cons (pv 1) pa_nil))))) (pss_one
 (ps_raise rfl (takes_of rfl rfl rfl rfl) (pmk_err T.eInvalidNumber hr (pa_cons (pv 1) pa_nil)))) pss_nil)
 (pss_cons
 (ps_set (i := 2) sc_Rule_drawn.nd rfl (Or.inr rfl) (pe_callB call_len_seq (by exact rfl) T.zlen PySem.boot_len (pa_cons (pe_fld (pe_fld (pv 0) rfl) rfl) pa_nil)))
 (pss_one
 (ps_ret (pe_callTy call_tuple_of (by exact rfl) T.ztuple (by decide +kernel) (pa_cons (pe_lc (own := [("letter", 3), ("turn", 4)]) (g := (gTup K 2 (gCons (gName 3) (gCons (gName 4) gNil)))) (tt := tYes) (by rfl) sc_Rule_drawn.nd (pi_tup (pe_fld (pv 0) rfl)) (blkOk_by (own := [("letter", 3), ("turn", 4)]) (N := N_Rule_drawn) (sc := defScope s_Rule_drawn) (by decide +kernel)) (fun _ _ _ _ _ => (pg_tupK (K0 := K) (n := 2) (by exact rfl) (by rfl) (pgs_cons (pg_name (i := 3) sc_Rule_drawn.nd rfl (Or.inl rfl)) (pgs_cons (pg_name (i := 4) sc_Rule_drawn.nd rfl (Or.inl rfl)) pgs_nil)))) (fun _ _ _ _ _ => pts_nil) (fun _ _ _ _ _ => (pe_tup (pa_cons (pv 3) (pa_cons (pe_op op_mod (pe_op op_add (pv 4) (pv 1)) (pv 2)) pa_nil))))) pa_nil)))))), ?_⟩
    dsimp only [cxOf]
    obtain ⟨a, xs, rfl, hs, l⟩ := dTup hx
    obtain ⟨dg, eg⟩ := id hg
    have few : r.length ≤ 1000 := Nat.le_trans ok.most (by decide)
    refine ⟨_, rfl, _, _, _, _, _, rfl, e1, rc.cls, rc.grid, rF_grid, _, rfl, g, t, _, dd, rfl, hg, hd, _, rfl, ?_⟩
    cases b : isTurnD t dd with
    | false => exact if_nf ⟨_, rfl, _, rfl, fun d nd => bad b d H same_rfl nd⟩
    | true =>
    obtain ⟨d, rfl, rfl⟩ := turn_int hd b
    have k := good b
    refine (iteF ?_ : if (!true) = true then _ else _)
    refine ⟨_, rfl, _, _, _, _, _, rfl, e1, rc.cls, rc.grid, rF_grid, _, _, _, _, _, rfl, eg, c.cls, c.units, gF_units, U t, _, rfl, .inr (hU.tup t _), ?_⟩
    rw [List.length_map, hU.len t]
    refine ⟨_, rfl, _, _, _, _, _, rfl, e1, rc.cls, rc.row, rF_row, a, rfl, ⟨_, hs⟩, fun D hD => lc_row (fun it => itemD (it.1, (it.2 + d) % (num t : Int))) hs l few hD (fun _ _ => rfl) (fun n it H' hit _ nD Q q => ?_) (fun H2 s2 dp => ?_)⟩
    · refine ⟨_, rfl, _, rfl, _, rfl, _, _, rfl, rfl, _, rfl, _, _, rfl, rfl, num_pos, by show 2 ≤ sizeLine; decide, fun q1 n1 => q _ _ (Same.new n1) (pair_made (it := (it.1, (it.2 + d) % (num t : Int))) nD n1)⟩
    · obtain ⟨zs, hz, made⟩ := tup_made dp
      exact ⟨D, zs, rfl, .inl ⟨hz, fun q1 n1 => k _ _ (s2.trans (Same.new n1))⟩⟩
theorem h_ritemX (T : TxE K mg aG dU C CR cs) (rc : RCls K CR) (D : Dm K CR "__getitem__" "Rule.__getitem__" s_Rule_WgetitemW) (his_integer : Has P w K mg base CX0 "is_integer" 1 ["value"] (spIsInt K)) : HasM P w K mg base (L2.CX P w) CR "__getitem__" 2 ["self", "index"] (spRItemX K C U CR cs) := by
  refine D.hasX sc_Rule_WgetitemW (fun vs H Q E h => ?_) (fun kV doc pm an cdv ct us hl => match us, hl with | [_, _], _ => rfl) (fun f cdv A outer s H vs Q E gd hr h => ?_)
  · obtain ⟨p, t, r, iv, k, rfl, _⟩ := h
    rfl
  · obtain ⟨p, t, r, iv, kd, rfl, ⟨dx, g, x, ll, ss, ee, ys, e1, hg, ok, hx, _⟩, on, bad, good⟩ := h
    refine ⟨_, (pss_cons
 (ps_if (PW.pt (pw_or (pt_not (pt_val (pe_callH his_integer gd (hr.mono (by decide)) pass0 (pa_cons (pv 1) pa_nil)))) (pw_or (pt_cmpR op_lt (pv 1) pe_int (nomark _)) (pw_or1 (pt_cmpR op_ge (pv 1) (pe_callB call_len_seq (by exact rfl) T.zlen PySem.boot_len (pa_cons (pe_fld (pv 0) rfl) pa_nil)) (nomark _)))))) (pss_one
 (ps_raise rfl (takes_of rfl rfl rfl rfl) (pmk_err T.eInvalidNumber hr (pa_cons (pv 1) pa_nil)))) pss_nil)
 (pss_one
 (ps_ret (pe_ix ix_tup (pe_fld (pv 0) rfl) (pv 1) (fun _ _ => rfl))))), ?_⟩
    dsimp only [cxOf]
    obtain ⟨a, xs, rfl, hs, l⟩ := dTup hx
    have ln := rowLen l
    have m := ok.most
    refine ⟨_, rfl, _, _, rfl, on, _, rfl, ?_⟩
    cases b : isIntV iv with
    | false =>
      have nb : idxOk r.length iv = false := by
        cases iv with
        | int i => show (isCountV (.int i) && _) = false; rw [show isCountV (.int i) = (isIntV (.int i) && decide ((0 : Int) ≤ i)) from rfl, b]; rfl
        | _ => rfl
      exact if_nf (iteT ⟨_, rfl, _, rfl, fun d nd => bad nb d H same_rfl nd⟩)
    | true =>
    obtain ⟨i, rfl⟩ : ∃ i, iv = .int i := by cases iv <;> first | exact ⟨_, rfl⟩ | (cases (show false = true from b))
    have eI : idxOk r.length (.int i) = (decide ((0 : Int) ≤ i) && decide (i < (r.length : Int))) := by
      show (isCountV (.int i) && _) = _
      rw [show isCountV (.int i) = (isIntV (.int i) && decide ((0 : Int) ≤ i)) from rfl, b, Bool.true_and]
    refine (iteF ?_ : if (!true) = true then _ else _)
    refine ⟨_, rfl, _, _, rfl, rfl, _, rfl, ?_⟩
    by_cases c1 : i < 0
    · rw [decide_eq_true c1]
      exact iteT (iteT ⟨_, rfl, _, rfl, fun d nd => bad (by rw [eI, decide_eq_false (by omega)]; rfl) d H same_rfl nd⟩)
    rw [decide_eq_false c1]
    refine iteF ⟨_, rfl, _, rfl, _, _, _, _, _, rfl, e1, rc.cls, rc.row, rF_row, a, xs, rfl, .inr hs, _, _, rfl, rfl, _, rfl, ?_⟩
    by_cases c2 : (xs.length : Int) ≤ i
    · rw [decide_eq_true c2]
      exact iteT ⟨_, rfl, _, rfl, fun d nd => bad (by rw [eI, decide_eq_false (show ¬ i < (r.length : Int) by omega), Bool.and_false]) d H same_rfl nd⟩
    rw [decide_eq_false c2]
    refine iteF ?_
    obtain ⟨j, rfl⟩ : ∃ j : Nat, i = (j : Int) := ⟨i.toNat, by omega⟩
    have lt : j < xs.length := by omega
    exact ⟨_, rfl, _, _, _, _, _, rfl, e1, rc.cls, rc.row, rF_row, _, rfl, a, _, _, _, rfl, rfl, hs, atI_nat (List.getElem?_eq_getElem lt), good (by rw [eI, decide_eq_true (by omega), decide_eq_true (by omega)]; rfl) _⟩
end
end K11
namespace K11
open PySem PySem.Spec PyProof.Rows L2 GL SkE PySem.GLE LamX
def letAt (kvs : List (Key × V)) (y : Str) : Bool := match valV kvs (.inr y) with
  | some (.str s) => LetS s
  | _ => false
def renOk (kvs : List (Key × V)) (ys : List Str) : Bool := decide (kvs.length = ys.length) && ys.all (letAt kvs)
/-- a dict's value: a short text, None, or nothing -/
def OkGet (o : Option V) : Prop := o = none ∨ o = some .non ∨ ∃ s, o = some (.str s) ∧ s.length ≤ 1000
def RenV (K : PySem.W.Frag) (H : Hp) (ys : List Str) (x : V) (b : Bool) : Prop := (b = false ∧ ∃ k, Of K H x k ∧ k ≠ .dct) ∨ ∃ d kvs, x = .ref d ∧ H d = some (.dK kvs) ∧ (∀ y ∈ ys, OkGet (valV kvs (.inr y))) ∧ b = renOk kvs ys
def spIsRenX (K : PySem.W.Frag) : Sp := fun vs H Q _ => ∃ l x ys b, vs = [l, x] ∧ Dp K H l (.tuple (ys.map PyData.str)) ∧ ys.length ≤ 1000 ∧ RenV K H ys x b ∧ ∀ H', Same H H' → Q (.bl b) H'
def spRenX (K : PySem.W.Frag) (C : Addr) (U : Bool → Addr) (CR : Addr) (c : Cs) : Sp := fun vs H Q E => ∃ p t r x ys b, vs = [.ref p, x] ∧ RuleAt K C U CR H p t r ∧ Lets r ys ∧ RenV K H ys x b ∧ (b = false → Raises H c.O E) ∧ (b = true → ∀ q H', Same H H' → Q (.ref q) H')
/-- no rule -/
def NoRule (K : PySem.W.Frag) (CR : Addr) (H : Hp) (x : V) : Prop := ∃ T, TyX K H x T ∧ PySem.W.kitOne K T (.ref CR) = some false
def spRAddX (K : PySem.W.Frag) (C : Addr) (U : Bool → Addr) (CR : Addr) (c : Cs) : Sp := fun vs H Q E => ∃ p t r x, vs = [.ref p, x] ∧ RuleAt K C U CR H p t r ∧ ((NoRule K CR H x ∧ Raises H c.R E) ∨ ∃ q t' r', x = .ref q ∧ RuleAt K C U CR H q t' r' ∧ (¬ (t = t' ∧ r.length + r'.length ≤ 12) → Raises H c.R E) ∧ (t = t' ∧ r.length + r'.length ≤ 12 → ∀ q H', Same H H' → Q (.ref q) H'))
theorem kit_ndct {K : PySem.W.Frag} {k : Kd} (n : k ≠ .dct) : PySem.W.kitOne K (.type k.nm) (.type "dict") = some false := by
  cases k <;> first | exact absurd rfl n | exact kit_ty (by decide +kernel)
theorem ren_all {kvs : List (Key × V)} {ys : List Str} (h : renOk kvs ys = true) : kvs.length = ys.length ∧ ∀ y ∈ ys, ∃ s, valV kvs (.inr y) = some (.str s) ∧ LetS s = true := by
  unfold renOk at h
  rw [Bool.and_eq_true, decide_eq_true_eq, List.all_eq_true] at h
  refine ⟨h.1, fun y hy => ?_⟩
  have z := h.2 y hy
  unfold letAt at z
  split at z
  · exact ⟨_, by assumption, z⟩
  · cases z
section
variable {P : Program} {w : World} {K : PySem.W.Frag} {mg : Str → Option Value} {base : Heap}
variable {aG dU C CR : Addr} {U : Bool → Addr} {us : Bool → List Addr} {cs : Cs} {t : Bool}
theorem h_is_renX (T : TxE K mg aG dU C CR cs) (D : Df K mg "is_renaming" s_is_renaming) (his_letter : Has P w K mg base CX0 "is_letter" 1 ["value"] (spLet K)) : Has P w K mg base CX0 "is_renaming" 2 ["letters", "value"] (spIsRenX K) := by
  refine D.has sc_is_renaming (fun vs H Q E h => ?_) (fun kV doc pm an cdv ct us hl => match us, hl with | [_, _], _ => rfl) (fun f cdv A outer s H vs Q E gd hr h => ?_)
  · obtain ⟨l, x, ys, b, rfl, _⟩ := h
    rfl
  · obtain ⟨l, x, ys, b, rfl, hl, few, rv, k⟩ := h
    have hu := hr.units
    refine ⟨_, (pss_cons
 (ps_if (PW.pt (pw_or (pt_not (pt_val (pe_callB call_isi (by exact rfl) T.zisinstance (by decide +kernel) (pa_cons (pv 1) (pa_cons (pe_bltn (v := .ty "dict") (by exact rfl) T.zdict (by decide +kernel) rfl) pa_nil))))) (pw_or1 (pt_cmpR op_ne (pe_callB call_lenD (by exact rfl) T.zlen PySem.boot_len (pa_cons (pv 1) pa_nil)) (pe_callB call_len_seq (by exact rfl) T.zlen PySem.boot_len (pa_cons (pv 0) pa_nil)) (nomark _))))) (pss_one
 (ps_ret pe_bl)) pss_nil)
 (pss_one
 (ps_ret (pe_callB (cr_all rfl) (by exact rfl) T.zall (by decide +kernel) (pa_cons (pe_lc (own := [("letter", 2)]) (g := gName 2) (tt := tYes) (by rfl) sc_is_renaming.nd (pi_tup (pv 0)) (blkOk_by (own := [("letter", 2)]) (N := N_is_renaming) (sc := defScope s_is_renaming) (by decide +kernel)) (fun _ _ _ _ _ => pg_name (i := 2) sc_is_renaming.nd rfl (Or.inl rfl)) (fun _ _ _ _ _ => pts_nil) (fun _ _ _ _ _ => (pe_and (pe_cmp (pc_din (Nat.lt_of_le_of_lt (Nat.add_le_add_left (by decide) _) hu) (pv 2) (pv 1))) (pe_one (pe_callH his_letter gd (hr.mono (by decide)) pass0 (pa_cons (pe_dget (Nat.lt_of_le_of_lt (Nat.add_le_add_left (by decide) _) hu) (pv 1) (pv 2) (fun _ _ => rfl)) pa_nil)))))) pa_nil))))), ?_⟩
    dsimp only [cxOf, Cx.nox]
    obtain ⟨a, xs, rfl, hs, la⟩ := dTup hl
    have ex : xs = ys.map V.str := dStrs' la
    subst ex
    rcases rv with ⟨rfl, kd, on, nd⟩ | ⟨d, kvs, rfl, hd, okg, rfl⟩
    · exact ⟨_, rfl, _, _, _, _, _, rfl, .ty _, on, kit_ndct nd, _, rfl, if_nf (iteT (k _ same_rfl))⟩
    refine ⟨_, rfl, _, _, _, _, _, rfl, .ty _, (Of.dct hd : Of K H (.ref d) .dct), kit_dct, _, rfl, (iteF ?_ : if (!true) = true then _ else _)⟩
    refine ⟨_, rfl, d, _, rfl, hd, _, rfl, a, _, rfl, .inr hs, rfl, _, rfl, ?_⟩
    by_cases ln : kvs.length = ys.length
    case neg =>
      rw [show (!decide (V.int (kvs.length : Int) = V.int ((ys.map V.str).length : Int))) = true by
        rw [List.length_map, decide_eq_false (fun z => ln (by injection z with z; omega))]; rfl]
      have nb : renOk kvs ys = false := by unfold renOk; rw [decide_eq_false ln]; rfl
      rw [nb] at k
      exact iteT (k _ same_rfl)
    rw [show (!decide (V.int (kvs.length : Int) = V.int ((ys.map V.str).length : Int))) = false by rw [List.length_map, ln]; simp]
    have eb : renOk kvs ys = ys.all (letAt kvs) := by unfold renOk; rw [decide_eq_true ln, Bool.true_and]
    rw [eb] at k
    refine iteF ?_
    refine ⟨_, rfl, a, rfl, ⟨_, hs⟩, fun D hD => lc_tup (a := a) (xs := ys.map V.str) (fun i' H' => Same H H' ∧ H' D = some (.lst (((ys.take i').map (letAt kvs)).map V.bl))) ⟨Same.new hD, upd_same⟩ (fun i' H' _ h => sqT_same hs h.1) ?_ ?_⟩
    · rintro i' x H' hx ⟨s', hacc⟩
      obtain ⟨y, hy, rfl⟩ : ∃ y, ys[i']? = some y ∧ x = .str y := by
        rw [List.getElem?_map] at hx
        cases e : ys[i']? with
        | none => rw [e] at hx; cases hx
        | some y => rw [e] at hx; cases hx; exact ⟨y, rfl, rfl⟩
      have my := List.mem_of_getElem? hy
      have get : DGet H' d (.str y) (valV kvs (.inr y)) := DGet.k (k := (.inr y : Key)) (s' _ _ hd)
      have fin : ∀ b : Bool, letAt kvs y = b → ∃ L, H' D = some (.lst L) ∧ L.length < sizeLine ∧ (Same H (upd H' D (.lst (L ++ [.bl b]))) ∧ upd H' D (.lst (L ++ [.bl b])) D = some (.lst (((ys.take (i' + 1)).map (letAt kvs)).map V.bl))) := fun b eb => by
        refine ⟨_, hacc, ?_, Same.over s' hD _, ?_⟩
        · rw [List.length_map, List.length_map, List.length_take, sizeLine_eq]
          omega
        · rw [upd_same, List.take_add_one, hy, List.map_append, List.map_append, ← eb]
          rfl
      refine ⟨rfl, ?_⟩
      simp only [tYes, if_true]
      rcases okg y my with e | e | ⟨z, e, short⟩
      · rw [e] at get
        refine ⟨_, rfl, _, rfl, d, _, rfl, get, _, rfl, iteF ?_⟩
        exact fin false (by unfold letAt; rw [e])
      · rw [e] at get
        refine ⟨_, rfl, _, rfl, d, _, rfl, get, _, rfl, iteT ⟨_, rfl, _, rfl, d, _, rfl, get, _, .none, rfl, .non, (fun z e => by cases e), ?_⟩⟩
        exact fin false (by unfold letAt; rw [e])
      · rw [e] at get
        refine ⟨_, rfl, _, rfl, d, _, rfl, get, _, rfl, iteT ⟨_, rfl, _, rfl, d, _, rfl, get, _, .str z, rfl, .str _, (fun z e => by cases e; omega), ?_⟩⟩
        exact fin (isLetD (.str z)) (by unfold letAt; rw [e]; rfl)
    rintro Hc ⟨sc, hacc⟩
    rw [List.length_map, List.take_length] at hacc
    refine ⟨D, _, rfl, SqL.of hacc, ?_⟩
    rw [show (ys.map (letAt kvs)).all id = ys.all (letAt kvs) by rw [List.all_map]; rfl]
    exact k _ sc
end
end K11
namespace K11
open PySem PySem.Spec PyProof.Rows L2 GL SkE PySem.GLE LamX
theorem cat_row {K : PySem.W.Frag} {H : Hp} {x y : V} {r r' : RowT} {Q : VK} (ha : Dp K H x (rowD r)) (hb : Dp K H y (rowD r')) (few : r.length + r'.length ≤ 1000) (k : ∀ z H', Same H H' → Dp K H' z (rowD (r ++ r')) → Q z H') : rCatA K x y H Q := by
  refine cat_go ha hb (by rw [List.length_map, List.length_map, sizeLine_eq]; omega) (fun z H' s d => k z H' s ?_)
  rw [← List.map_append] at d
  exact d
section
variable {K : PySem.W.Frag} {H H' : Hp} {x : V}
theorem tyX_same {t : Value} (h : TyX K H x t) (s : Same H H') : TyX K H' x t := by
  cases h with
  | base b =>
    cases b with
    | non => exact .base .non
    | bl x => exact .base (.bl x)
    | int i => exact .base (.int i)
    | str y => exact .base (.str y)
    | flt y => exact .base (.flt y)
    | lst e => exact .base (.lst (s _ _ e))
    | frz e => exact .base (.frz (s _ _ e))
    | tup e => exact .base (.tup (s _ _ e))
    | dK e => exact .base (.dK (s _ _ e))
    | dT e => exact .base (.dT (s _ _ e))
    | ins e a b c d e2 => exact .base (.ins (s _ _ e) a b c d e2)
  | byt b => exact .byt b
  | set e => exact .set (s _ _ e)
  | kList e c => exact .kList e c
  | kTuple e c => exact .kTuple e c
  | kDict e c => exact .kDict e c
  | fTuple e => exact .fTuple (s _ _ e)
  | fDict e => exact .fDict (s _ _ e)
end
theorem NoGrid.same {K : PySem.W.Frag} {C : Addr} {H H' : Hp} {x : V} (h : NoGrid K C H x) (s : Same H H') : NoGrid K C H' x := let ⟨T, a, b⟩ := h; ⟨T, tyX_same a s, b⟩
section
variable {P : Program} {w : World} {K : PySem.W.Frag} {mg : Str → Option Value} {base : Heap}
variable {aG dU C CR : Addr} {U : Bool → Addr} {us : Bool → List Addr} {cs : Cs} {t : Bool}
theorem mk_rule {H1 : Hp} {g : Addr} {x : V} {r : RowT} {Q : VK} {E : XK} (hg : GridAt C U H1 g t) (hx : Dp K H1 x (rowD r)) (ok : RowOk t r) (k : RNew K C U CR H1 t r Q) :
    ∀ q dq, H1 q = none → H1 dq = none → dq ≠ q → spRInit K C U CR (.ref q :: ([.ref g, x] ++ [])) (upd (upd H1 dq (.own q)) q (.ins CR dq [])) (fun v H2 => v = .non ∧ Q (.ref q) H2) E := by
  intro q dq hq hdq ne
  have s1 : Same H1 (upd (upd H1 dq (.own q)) q (.ins CR dq [])) := (Same.new hdq).trans (Same.new (by rw [upd_ne ne.symm]; exact hq))
  refine ⟨q, dq, g, t, x, r, rfl, upd_same, hg.same s1, dp_same s1 hx, ok, fun H' keep rule => ⟨rfl, k q H' hq (fun b o e => ?_) rule⟩⟩
  exact keep b o (fun z => by rw [z, hq] at e; cases e) (s1 b o e)
/-- a rule of any row of right length, or what its wrong length raises -/
theorem mk_ruleX {H1 : Hp} {gx x : V} {Q : VK} {E : XK} (h : (NoGrid K C H1 gx ∧ Raises H1 cs.G E) ∨ ∃ g d, gx = .ref g ∧ GridAt C U H1 g t ∧ VD K H1 x d ∧ MildD d ∧ (isRowD t 2 d = false → Raises H1 cs.R E) ∧ ∀ r, d = rowD r → RowOk t r → RNew K C U CR H1 t r Q) :
    ∀ q dq, H1 q = none → H1 dq = none → dq ≠ q → spRInitX K C U CR cs (.ref q :: ([gx, x] ++ [])) (upd (upd H1 dq (.own q)) q (.ins CR dq [])) (fun v H2 => v = .non ∧ Q (.ref q) H2) E := by
  intro q dq hq hdq ne
  have s1 : Same H1 (upd (upd H1 dq (.own q)) q (.ins CR dq [])) := (Same.new hdq).trans (Same.new (by rw [upd_ne ne.symm]; exact hq))
  rcases h with ⟨no, e⟩ | ⟨g, d, rfl, hg, hx, mild, bad, good⟩
  · exact ⟨q, dq, gx, x, rfl, upd_same, .inl ⟨no.same s1, e _ s1⟩⟩
  refine ⟨q, dq, _, x, rfl, upd_same, .inr ⟨g, t, d, rfl, hg.same s1, hx.same s1, mild, fun b H' s' => bad b H' (s1.trans s'), fun r e ok H' keep rule => ⟨rfl, good r e ok q H' hq (fun b o e => ?_) rule⟩⟩⟩
  exact keep b o (fun z => by rw [z, hq] at e; cases e) (s1 b o e)
theorem h_renamedX (T : TxE K mg aG dU C CR cs) (rc : RCls K CR) (D : Dm K CR "renamed" "Rule.renamed" s_Rule_renamed) (his_renaming : Has P w K mg base CX0 "is_renaming" 2 ["letters", "value"] (spIsRenX K)) (hRule : HasG P w K mg base "Rule" CR 6 ["self", "grid", "items"] (spRInit K C U CR)) : HasM P w K mg base (L2.CX P w) CR "renamed" 8 ["self", "letters"] (spRenX K C U CR cs) := by
  refine D.hasX sc_Rule_renamed (fun vs H Q E h => ?_) (fun kV doc pm an cdv ct us hl => match us, hl with | [_, _], _ => rfl) (fun f cdv A outer s H vs Q E gd hr h => ?_)
  · obtain ⟨p, t, r, x, ys, b, rfl, _⟩ := h
    rfl
  · obtain ⟨p, t, r, xd, ys, b, rfl, ⟨dx, g, x, ll, ss, ee, zs, e1, hg, ok, hx, lets0, hl, _⟩, lets, rv, bad, good⟩ := h
    have hu := hr.units
    refine ⟨_, (pss_cons
 (ps_if (pt_not (pt_val (pe_callH his_renaming gd (hr.mono (by decide)) pass0 (pa_cons (pe_fld (pv 0) rfl) (pa_cons (pv 1) pa_nil))))) (pss_one
 (ps_raise rfl (takes_of rfl rfl rfl rfl) (pmk_own PySem.F.excBase_ValueError T.mInvalidOperation.q T.mInvalidOperation.g T.mInvalidOperation.k (raises_own T.mInvalidOperation.b T.mInvalidOperation.t) rfl))) pss_nil)
 (pss_one
 (ps_ret (pe_makeG hRule gd (hr.mono (by decide)) pass0 (pa_cons (pe_fld (pv 0) rfl) (pa_cons (pe_callTy call_tuple_of (by exact rfl) T.ztuple (by decide +kernel) (pa_cons (pe_lc (own := [("letter", 2), ("turn", 3)]) (g := (gTup K 2 (gCons (gName 2) (gCons (gName 3) gNil)))) (tt := tYes) (by rfl) sc_Rule_renamed.nd (pi_tup (pe_fld (pv 0) rfl)) (blkOk_by (own := [("letter", 2), ("turn", 3)]) (N := N_Rule_renamed) (sc := defScope s_Rule_renamed) (by decide +kernel)) (fun _ _ _ _ _ => (pg_tupK (K0 := K) (n := 2) (by exact rfl) (by rfl) (pgs_cons (pg_name (i := 2) sc_Rule_renamed.nd rfl (Or.inl rfl)) (pgs_cons (pg_name (i := 3) sc_Rule_renamed.nd rfl (Or.inl rfl)) pgs_nil)))) (fun _ _ _ _ _ => pts_nil) (fun _ _ _ _ _ => (pe_tup (pa_cons (pe_dget (Nat.lt_of_le_of_lt (Nat.add_le_add_left (by decide) _) hu) (pv 1) (pv 2) (fun _ _ => rfl)) (pa_cons (pv 3) pa_nil))))) pa_nil)) pa_nil)))))), ?_⟩
    dsimp only [cxOf]
    obtain ⟨a, xs, rfl, hs, l⟩ := dTup hx
    have few : r.length ≤ 1000 := Nat.le_trans ok.most (by decide)
    have ezs : zs = ys := sorted_uniq lets0.2 lets.2 (lets0.1.trans lets.1.symm)
    subst ezs
    have mem : ∀ it ∈ r, it.1 ∈ zs := fun it h => lets.1.mem_iff.mpr ((setS_mem _ _).mpr (List.mem_map.mpr ⟨it, h, rfl⟩))
    have n12 := lets.1.length_eq
    have s12 := setS_len (r.map (fun it : Str × Int => it.1))
    rw [List.length_map] at s12
    refine ⟨_, rfl, _, _, _, _, _, rfl, e1, rc.cls, rc.letters, rF_letters, _, rfl, _, xd, zs, b, rfl, hl, by omega, rv, fun H1 s1 => ?_⟩
    cases b with
    | false => exact ⟨_, rfl, if_nf (bad rfl H1 s1)⟩
    | true =>
    rcases rv with ⟨z, _⟩ | ⟨d, kvs, rfl, hd, _, eb⟩
    · cases z
    obtain ⟨_, alls⟩ := ren_all eb.symm
    have fnx : ∃ fn : Str → Str, ∀ y ∈ zs, valV kvs (.inr y) = some (.str (fn y)) ∧ LetS (fn y) = true := ⟨fun y => match valV kvs (.inr y) with | some (.str s) => s | _ => y, fun y hy => by
      obtain ⟨s, e, ls⟩ := alls y hy
      show valV kvs (.inr y) = some (.str (match valV kvs (.inr y) with | some (.str s) => s | _ => y)) ∧ LetS (match valV kvs (.inr y) with | some (.str s) => s | _ => y) = true
      rw [e]
      exact ⟨rfl, ls⟩⟩
    obtain ⟨fn, hfn⟩ := fnx
    refine ⟨_, rfl, (iteF ?_ : if (!true) = true then _ else _)⟩
    have e1' := s1 _ _ e1
    refine ⟨_, rfl, _, _, _, _, _, rfl, e1', rc.cls, rc.grid, rF_grid, _, rfl, _, _, _, _, _, rfl, e1', rc.cls, rc.row, rF_row, a, rfl, ⟨_, sqT_same hs s1⟩, fun D hD => lc_row (fun it => itemD (fn it.1, it.2)) (sqT_same hs s1) (dps_same s1 l) few hD (fun _ _ => rfl) (fun n it H' hit s' nD Q q => ?_) (fun H2 s2 dp => ?_)⟩
    · have get : DGet H' d (.str it.1) (some (.str (fn it.1))) := by
        have z := DGet.k (k := (.inr it.1 : Key)) (s' _ _ (s1 _ _ hd))
        rw [(hfn _ (mem it (List.mem_of_getElem? hit))).1] at z
        exact z
      exact ⟨_, rfl, _, rfl, d, _, rfl, get, _, rfl, by show 2 ≤ sizeLine; decide, fun q1 n1 => q _ _ (Same.new n1) (pair_made (it := (fn it.1, it.2)) nD n1)⟩
    · obtain ⟨us', hz, made⟩ := tup_made dp
      refine ⟨D, us', rfl, .inl ⟨hz, fun q1 n1 => ?_⟩⟩
      have s3 := (s1.trans s2).trans (Same.new (o := .tup us') n1)
      have z : Dp K (upd H2 q1 (.tup us')) (.ref q1) (rowD (nameR fn r)) := by
        have z := made q1 n1
        unfold nameR rowD
        rw [List.map_map]
        exact z
      exact mk_rule (hg.same s3) z (name_row ok (fun it h => (hfn _ (mem it h)).2)) fun q H' nq s4 rule => good rfl q H' (s3.trans s4)
end
end K11
namespace K11
open PySem PySem.Spec PyProof.Rows L2 GL SkE PySem.GLE LamX
theorem rowS_app {t : Bool} {r r' : RowT} (a : RowOk t r) (b : RowOk t r') : (∀ it ∈ r ++ r', ItemOk t it) ∧ 2 ≤ (r ++ r').length := ⟨fun it hi => by
  rcases List.mem_append.mp hi with z | z
  · exact a.all it z
  · exact b.all it z, by rw [List.length_append]; have := a.two; omega⟩
theorem mild_items {t : Bool} {r : RowT} (h : ∀ it ∈ r, ItemOk t it) (few : r.length ≤ 1000) : MildD (rowD r) := fun ds e => by
  cases e
  refine ⟨by rw [List.length_map]; exact few, fun x hx => ?_⟩
  obtain ⟨it, hi, rfl⟩ := List.mem_map.mp hx
  exact item_mild (h it hi)
section
variable {P : Program} {w : World} {K : PySem.W.Frag} {mg : Str → Option Value} {base : Heap}
variable {aG dU C CR : Addr} {U : Bool → Addr} {us : Bool → List Addr} {cs : Cs}
theorem h_raddX (c : GCls K C) (i : GIs K C) (rc : RCls K CR) (ri : GIs K CR) (T : TxE K mg aG dU C CR cs) (eqc : EqC K C) (D : Dm K CR "__add__" "Rule.__add__" s_Rule_WaddW) (hm_eq : HasM P w K mg base CX0 C "__eq__" 1 ["self", "other"] (spGEq K C U)) (hRule : HasGX P w K mg base (L2.CX P w) "Rule" CR 6 ["self", "grid", "items"] (spRInitX K C U CR cs)) : HasM P w K mg base (L2.CX P w) CR "__add__" 8 ["self", "other"] (spRAddX K C U CR cs) := by
  refine D.hasX sc_Rule_WaddW (fun vs H Q E h => ?_) (fun kV doc pm an cdv ct us hl => match us, hl with | [_, _], _ => rfl) (fun f cdv A outer s H vs Q E gd hr h => ?_)
  · obtain ⟨p, t, r, x, rfl, _⟩ := h
    rfl
  · obtain ⟨p, t, r, xo, rfl, ⟨dx, g, x, ll, ss, ee, ys, e1, hg, ok, hx, _⟩, h⟩ := h
    refine ⟨_, (pss_cons
 (ps_if (PW.pt (pw_or (pt_not (pt_val (pe_callB call_isi (by exact rfl) T.zisinstance (by decide +kernel) (pa_cons (pv 1) (pa_cons (pe_globV T.gRule) pa_nil))))) (pw_or1 (pt_cmpR (op_neA hm_eq eqc gd (hr.mono (by decide)) pass0) (pe_fld (pv 0) rfl) (pe_fld (pv 1) rfl) (nomark _))))) (pss_one
 (ps_raise rfl (takes_of rfl rfl rfl rfl) (pmk_own PySem.F.excBase_ValueError T.mInvalidRule.q T.mInvalidRule.g T.mInvalidRule.k (raises_own T.mInvalidRule.b T.mInvalidRule.t) rfl))) pss_nil)
 (pss_one
 (ps_ret (pe_makeGX hRule gd (hr.mono (by decide)) (passes_call (takes_of rfl rfl rfl rfl) (fun _ _ _ _ e => e)) (pa_cons (pe_fld (pv 0) rfl) (pa_cons (pe_op op_catA (pe_fld (pv 0) rfl) (pe_fld (pv 1) rfl)) pa_nil)))))), ?_⟩
    dsimp only [cxOf]
    rcases h with ⟨⟨Ty, ty, kt⟩, e⟩ | ⟨q, t', r', rfl, ⟨dx', g', x', ll', ss', ee', ys', e2, hg', ok', hx', _⟩, bad, good⟩
    · exact ⟨_, rfl, _, _, _, _, _, rfl, .own _, ty, kt, _, rfl, if_nf (iteT (e H same_rfl))⟩
    obtain ⟨dg, eg⟩ := id hg
    obtain ⟨dg', eg'⟩ := id hg'
    refine ⟨_, rfl, _, _, _, _, _, rfl, .own _, ri.ty rc.cls e2, kit_self, _, rfl, (iteF ?_ : if (!true) = true then _ else _)⟩
    refine ⟨_, rfl, _, _, _, _, _, rfl, e1, rc.cls, rc.grid, rF_grid, _, rfl, _, _, _, _, _, rfl, e2, rc.cls, rc.grid, rF_grid, ?_⟩
    refine ⟨g, dg, _, _, rfl, eg, i.ty c.cls eg', nf_self, g, t, _, (t == t'), rfl, hg, .inl ⟨g', t', rfl, hg', rfl⟩, (t == t'), rfl, _, rfl, ?_⟩
    by_cases et : t = t'
    case neg =>
      rw [show (true != (t == t')) = true by cases t <;> cases t' <;> first | rfl | exact absurd rfl et]
      exact iteT (bad (fun z => et z.1) H same_rfl)
    subst et
    rw [show (true != (t == t)) = false by simp]
    refine iteF ?_
    have m1 := ok.most
    have m2 := ok'.most
    refine ⟨_, rfl, _, _, _, _, _, rfl, e1, rc.cls, rc.grid, rF_grid, _, rfl, _, _, _, _, _, rfl, e1, rc.cls, rc.row, rF_row, _, rfl, _, _, _, _, _, rfl, e2, rc.cls, rc.row, rF_row, ?_⟩
    refine cat_row hx hx' (by omega) fun z H' s' dz => nil_intro ?_
    obtain ⟨all, two⟩ := rowS_app ok ok'
    refine mk_ruleX (t := t) (.inr ⟨g, _, rfl, hg.same s', .inl dz, mild_items all (by rw [List.length_append]; omega), fun b H2 s2 => ?_, fun r2 e ok2 q2 H2 nq s2 rule => ?_⟩)
    · refine bad (fun z => ?_) H2 (s'.trans s2)
      rw [isRow_row.mpr ⟨by omega, ⟨by rw [List.length_append]; exact z.2, all⟩⟩] at b
      cases b
    · have e : rowD (r ++ r') = rowD r2 := e
      have l := congrArg (fun d => match d with | PyData.tuple ds => ds.length | _ => 0) e
      have l : ((r ++ r').map itemD).length = (r2.map itemD).length := l
      rw [List.length_map, List.length_map, List.length_append] at l
      have := ok2.most
      exact good ⟨rfl, by omega⟩ q2 H2 (s'.trans s2)
end
end K11
namespace K11
open PySem PySem.Spec PyProof.Rows L2 GL SkE PySem.GLE LamX
abbrev s__law_dice : Stmt := topS 41
abbrev N__law_dice : List Str := ["_law_script", "_law_spot", "_law_cell", "_law_left"]
theorem sc__law_dice : FnScope N__law_dice ["_law_script", "_law_spot"] (defScope s__law_dice) := ⟨rfl, rfl, rfl, by decide +kernel, rfl, by decide +kernel, by decide +kernel⟩
abbrev s__law_roll : Stmt := topS 42
abbrev N__law_roll : List Str := ["_law_dice_here", "_law_total", "_law_found", "_law_one", "_law_two"]
theorem sc__law_roll : FnScope N__law_roll ["_law_dice_here", "_law_total"] (defScope s__law_roll) := ⟨rfl, rfl, rfl, by decide +kernel, rfl, by decide +kernel, by decide +kernel⟩
abbrev s__law_pick : Stmt := topS 43
abbrev N__law_pick : List Str := ["_law_dice_here", "_law_items"]
theorem sc__law_pick : FnScope N__law_pick ["_law_dice_here", "_law_items"] (defScope s__law_pick) := ⟨rfl, rfl, rfl, by decide +kernel, rfl, by decide +kernel, by decide +kernel⟩
abbrev s__law_some_row : Stmt := topS 45
abbrev N__law_some_row : List Str := ["_law_dice_here", "_law_around", "_law_most", "_law_letters", "_law_row", "_law_turn"]
theorem sc__law_some_row : FnScope N__law_some_row ["_law_dice_here", "_law_around", "_law_most"] (defScope s__law_some_row) := ⟨rfl, rfl, rfl, by decide +kernel, rfl, by decide +kernel, by decide +kernel⟩
abbrev s__law_grid_word : Stmt := topS 44
abbrev N__law_grid_word : List Str := ["_law_dice_here"]
theorem sc__law_grid_word : FnScope N__law_grid_word ["_law_dice_here"] (defScope s__law_grid_word) := ⟨rfl, rfl, rfl, by decide +kernel, rfl, by decide +kernel, by decide +kernel⟩
abbrev s__law_is_row : Stmt := topS 46
abbrev N__law_is_row : List Str := ["_law_value", "_law_around", "_law_few", "_law_one"]
theorem sc__law_is_row : FnScope N__law_is_row ["_law_value", "_law_around", "_law_few"] (defScope s__law_is_row) := ⟨rfl, rfl, rfl, by decide +kernel, rfl, by decide +kernel, by decide +kernel⟩
abbrev s__law_first : Stmt := topS 48
abbrev N__law_first : List Str := ["_law_words", "_law_found", "_law_word"]
theorem sc__law_first : FnScope N__law_first ["_law_words"] (defScope s__law_first) := ⟨rfl, rfl, rfl, by decide +kernel, rfl, by decide +kernel, by decide +kernel⟩
def spSomeRow (K : PySem.W.Frag) : Sp := fun vs H Q _ => ∃ p t m, vs = [.ref p, .int (num t : Nat), .int (m : Nat)] ∧ 2 ≤ m ∧ m ≤ 12 ∧ Die H p ∧ ∀ x r H', RowOk t r → (∀ it ∈ r, it.1 ≠ ("x" : Str)) → r.length ≤ m → Got p H H' → Dp K H' x (rowD r) → Q x H'
theorem let_fin {y : Str} (h : LetS y = true) : ∃ c < 26, y = ⟨#[97 + c]⟩ := by
  unfold LetS at h
  obtain ⟨h1, h2⟩ := Bool.and_eq_true_iff.mp h
  have h1 : y.cps.size = 1 := of_decide_eq_true h1
  obtain ⟨a, ha⟩ : ∃ a, y.cps = #[a] := by
    obtain ⟨cps⟩ := y
    obtain ⟨l⟩ := cps
    match l, h1 with
    | [a], _ => exact ⟨a, rfl⟩
  rw [ha] at h2
  simp only [List.all_cons, List.all_nil, Bool.and_true, Bool.and_eq_true, decide_eq_true_eq] at h2
  refine ⟨a - 97, by omega, ?_⟩
  obtain ⟨cps⟩ := y
  have ha : cps = #[a] := ha
  rw [ha, show 97 + (a - 97) = a by omega]
theorem if_ne {x y : V} {A B : Prop} (h : x = y) (b : B) : if (!decide (x = y)) = true then A else B := by
  rw [if_neg (by rw [decide_eq_true h]; decide)]
  exact b
theorem kit_ii {K : PySem.W.Frag} : PySem.W.kitOne K (.type (Kd.nm .int)) (.type "int") = some true := kit_ty (by decide +kernel)
theorem kit_ib {K : PySem.W.Frag} : PySem.W.kitOne K (.type (Kd.nm .int)) (.type "bool") = some false := kit_ty (by decide +kernel)
theorem int_turn : ∀ i < 6, PySem.intText? (⟨#[48 + i]⟩ : Str) = some ((i : Nat) : Int) := by decide +kernel
def spGridWord : Sp := fun vs H Q _ => ∃ p, vs = [.ref p] ∧ Die H p ∧ ∀ t H', Got p H H' → Q (.str (nm t)) H'
def firstOf : List Str → Str
  | [] => Str.ofString ""
  | w :: r => if w = Str.ofString "" then firstOf r else w
def fulls (ws : List Str) : List Str := ws.filter fun w => !decide (w = Str.ofString "")
theorem fulls_first : ∀ ws, (fulls ws = [] → firstOf ws = Str.ofString "") ∧ (∀ w r, fulls ws = w :: r → firstOf ws = w)
  | [] => ⟨fun _ => rfl, fun _ _ z => by cases z⟩
  | v :: l => by
    obtain ⟨i1, i2⟩ := fulls_first l
    have fc : fulls (v :: l) = if v = Str.ofString "" then fulls l else v :: fulls l := by
      unfold fulls
      by_cases h : v = Str.ofString ""
      · rw [List.filter_cons, if_neg (by simp [h]), if_pos h]
      · rw [List.filter_cons, if_pos (by simp [h]), if_neg h]
    have ff : firstOf (v :: l) = if v = Str.ofString "" then firstOf l else v := rfl
    rw [fc, ff]
    by_cases h : v = Str.ofString ""
    · rw [if_pos h, if_pos h]
      exact ⟨i1, i2⟩
    · rw [if_neg h, if_neg h]
      exact ⟨fun z => (nomatch z), fun w r z => (by injection z)⟩
theorem fulls_take {ws : List Str} {i : Nat} {w : Str} (h : ws[i]? = some w) : fulls (ws.take (i + 1)) = fulls (ws.take i) ++ (if w = Str.ofString "" then [] else [w]) := by
  unfold fulls
  rw [List.take_succ, h, List.filter_append]
  congr 1
  by_cases e : w = Str.ofString "" <;> simp [e]
theorem fulls_len {ws : List Str} : (fulls ws).length ≤ ws.length := List.length_filter_le _ _
theorem strs_shaped : ∀ {ws : List Str}, (∀ w ∈ ws, PyData.strOk w = true) → PyData.canLayAll0 (ws.map PyData.str) = true
  | [], _ => rfl
  | w :: r, h => by
    have := strs_shaped (ws := r) (fun v hv => h v (List.mem_cons_of_mem _ hv))
    simp [PyData.canLayAll0, PyData.canLay0, this, h w (List.mem_cons_self ..)]
theorem strs_lay {ws : List Str} (h : ∀ w ∈ ws, PyData.strOk w = true) : SeqAt.shaped (.list (ws.map PyData.str)) = true := by
  unfold SeqAt.shaped
  simp [PyData.canLay0, strs_shaped h, PyData.depth, depth_strs]
theorem strs_nil {ws : List Str} : PyData.eqv (.list (ws.map PyData.str)) (.list []) = decide (ws = []) := by
  cases ws <;> simp [PyData.eqv, PyData.eqvAll]

def spFirst (K : PySem.W.Frag) : Sp := fun vs H Q _ => ∃ (l : Addr) (ws : List Str), vs = [.ref l] ∧ SqL K H l (ws.map V.str) ∧ ws.length ≤ 10 ∧ (∀ w ∈ ws, PyData.strOk w = true) ∧ ∀ H', Same H H' → Q (.str (firstOf ws)) H'
section
variable {P : Program} {w : World} {K : PySem.W.Frag} {mg : Str → Option Value} {base : Heap}
variable {aG dU C CR : Addr} {U : Bool → Addr} {us : Bool → List Addr}
theorem h_law_roll (T : Txt K mg aG dU C CR) (D : Df K mg "_law_roll" s__law_roll) : Has P w K mg base CX0 "_law_roll" 1 ["_law_dice_here", "_law_total"] spRoll := by
  refine D.has sc__law_roll (fun vs H Q E h => ?_) (fun kV doc pm an cdv ct us hl => match us, hl with | [_, _], _ => rfl) (fun f cdv A outer s H vs Q E gd hr h => ?_)
  · obtain ⟨p, t, rfl, _⟩ := h
    rfl
  · obtain ⟨p, t, rfl, ⟨l, b, c, l0, hp⟩, t0, tl, q⟩ := h
    refine ⟨_, (pss_cons
 (ps_if (pt_cmpR op_gt (pe_ix ix_list (pv 0) pe_int (fun _ _ => rfl)) pe_int (nomark _)) (pss_cons
 (ps_set (i := 2) sc__law_roll.nd rfl (Or.inl rfl) (pe_op op_mod (pe_callTy call_int1 (by exact rfl) T.zint (by decide +kernel) (pa_cons (pe_ix ix_list (pv 0) pe_int (fun _ _ => rfl)) pa_nil)) (pv 1)))
 (pss_cons
 (ps_asg (pe_op op_fdivW (pe_ix ix_list (pv 0) pe_int (fun _ _ => rfl)) (pv 1)) (pg_sub (pv 0) pe_int set_list))
 (pss_one
 (ps_ret (pv 2))))) pss_nil)
 (pss_cons
 (ps_asg (pe_op op_add (pe_ix ix_list (pv 0) pe_int (fun _ _ => rfl)) pe_int) (pg_sub (pv 0) pe_int set_list))
 (pss_cons
 (ps_set (i := 3) sc__law_roll.nd rfl (Or.inl rfl) (pe_op op_mod (pe_callTy call_int1 (by exact rfl) T.zint (by decide +kernel) (pa_cons (pe_op op_add (pe_ix ix_list (pv 0) pe_int (fun _ _ => rfl)) (pe_op op_mul pe_int (pe_ix ix_list (pv 0) pe_int (fun _ _ => rfl)))) pa_nil)) pe_int))
 (pss_cons
 (ps_set (i := 4) sc__law_roll.nd rfl (Or.inl rfl) (pe_op op_add (pe_op op_mul (pe_op op_mod (pe_callTy call_int1 (by exact rfl) T.zint (by decide +kernel) (pa_cons (pe_op op_add (pe_op op_mul (pv 3) (pv 3)) (pe_op op_mul pe_int (pe_ix ix_list (pv 0) pe_int (fun _ _ => rfl)))) pa_nil)) pe_int) pe_int) (pv 3)))
 (pss_one
 (ps_ret (pe_op op_mod (pe_callTy call_int1 (by exact rfl) T.zint (by decide +kernel) (pa_cons (pe_op op_fdiv (pv 4) pe_int) pa_nil)) (pv 1)))))))), ?_⟩
    have hS : ∀ {H : Hp} {xs}, H p = some (.lst xs) → SqL K H p xs := fun h => SqL.of h
    refine ⟨_, rfl, _, _, _, _, rfl, rfl, hS hp, atI_nat (j := 0) rfl, _, _, rfl, rfl, _, rfl, ?_⟩
    refine ite2 (fun c1 => ?_) (fun c1 => ?_)
    · refine ⟨_, rfl, _, _, _, _, rfl, rfl, hS hp, atI_nat (j := 0) rfl, .inl ⟨_, rfl, _, rfl, _, _, rfl, rfl, t0, ?_⟩⟩
      refine ⟨_, rfl, _, _, _, _, rfl, rfl, hS hp, atI_nat (j := 0) rfl, _, rfl, _, _, rfl, rfl, wide_div t0 tl (by decide) (by decide), _, rfl, _, _, _, _, rfl, rfl, hp, rfl, _, rfl, ?_⟩
      exact q _ _ (Int.emod_nonneg _ (Int.ne_of_gt t0)) (Int.emod_lt_of_pos _ t0) (Got.roll (Int.ediv_nonneg l0 (Int.le_of_lt t0)))
    · refine ⟨_, rfl, _, _, _, _, rfl, rfl, hS hp, atI_nat (j := 2) rfl, _, _, rfl, rfl, _, rfl, _, _, _, _, rfl, rfl, hp, rfl, ?_⟩
      have hp2 : (upd H p (.lst [.int l, .int b, .int (c + 1)])) p = some (.lst [.int l, .int b, .int (c + 1)]) := upd_same
      refine ⟨_, rfl, _, _, _, _, rfl, rfl, hS hp2, atI_nat (j := 1) rfl, _, rfl, _, _, _, _, rfl, rfl, hS hp2, atI_nat (j := 2) rfl, _, _, rfl, rfl, .inl ⟨by decide, by decide⟩, _, _, rfl, rfl, .inl ⟨_, rfl, _, _, rfl, rfl, by show (0 : Int) < _; decide, ?_⟩⟩
      generalize hx : (b + 15485863 * (c + 1)) % 2305843009213693693 = x1
      have x0 : 0 ≤ x1 ∧ x1 < 2305843009213693693 := by rw [← hx]; exact ⟨Int.emod_nonneg _ (by decide), Int.emod_lt_of_pos _ (by decide)⟩
      refine ⟨_, rfl, _, rfl, _, _, rfl, rfl, .inl ⟨by omega, by omega⟩, _, rfl, _, _, _, _, rfl, rfl, hS hp2, atI_nat (j := 2) rfl, _, _, rfl, rfl, .inl ⟨by decide, by decide⟩, _, _, rfl, rfl, .inl ⟨_, rfl, _, _, rfl, rfl, by show (0 : Int) < _; decide, _, _, rfl, rfl, .inr ⟨by decide, by decide⟩, _, rfl, _, _, rfl, rfl, ?_⟩⟩
      refine ⟨_, rfl, _, _, rfl, rfl, ⟨by decide, by decide⟩, .inl ⟨_, rfl, _, rfl, _, _, rfl, rfl, t0, ?_⟩⟩
      exact q _ _ (Int.emod_nonneg _ (Int.ne_of_gt t0)) (Int.emod_lt_of_pos _ t0) (Got.roll l0)

theorem h_law_dice (T : Txt K mg aG dU C CR) (D : Df K mg "_law_dice" s__law_dice) : Has P w K mg base CX0 "_law_dice" 1 ["_law_script", "_law_spot"] (spDice K) := by
  refine D.has sc__law_dice (fun vs H Q E h => ?_) (fun kV doc pm an cdv ct us hl => match us, hl with | [_, _], _ => rfl) (fun f cdv A outer s H vs Q E gd hr h => ?_)
  · obtain ⟨a, ns, spot, rfl, _⟩ := h
    rfl
  · obtain ⟨a, ns, spot, rfl, hS, s0, q⟩ := h
    refine ⟨_, (Evl.pss_cut
 (ps_set (i := 2) sc__law_dice.nd rfl (Or.inl rfl) (pe_ifExp (pt_cmpR op_lt (pv 1) (pe_callB call_len_seq (by exact rfl) T.zlen PySem.boot_len (pa_cons (pv 0) pa_nil)) (nomark _)) (pe_callTy call_int1 (by exact rfl) T.zint (by decide +kernel) (pa_cons (pe_ix ix_list (pv 0) (pv 1) (fun _ _ => rfl)) pa_nil)) (pe_op op_add (pe_op op_mul pe_int (pv 1)) pe_int)))
 (pss_cons
 (ps_set (i := 3) sc__law_dice.nd rfl (Or.inl rfl) (pe_op op_mod (pe_callB (call_max2 rfl) (by exact rfl) T.zmax (by decide +kernel) (pa_cons pe_int (pa_cons (pe_op op_sub (pe_callB call_abs (by exact rfl) T.zabs (by decide +kernel) (pa_cons (pv 2) pa_nil)) (pe_op op_pow pe_int pe_int)) pa_nil))) (pe_op op_mulW (pe_op op_pow pe_int pe_int) (pe_op op_pow pe_int pe_int))))
 (pss_one
 (ps_ret (pe_lst (pa_cons (pv 3) (pa_cons (pe_op op_add (pe_op op_add (pe_op op_add (pe_op op_mul (pe_op op_mod (pe_callB call_abs (by exact rfl) T.zabs (by decide +kernel) (pa_cons (pv 2) pa_nil)) pe_int) pe_int) (pe_op op_mul pe_int (pv 1))) (pe_op op_mul pe_int (pe_callTy call_int1 (by exact rfl) T.zint (by decide +kernel) (pa_cons (pe_cmpR op_lt (pv 2) pe_int (nomark _)) pa_nil)))) pe_int) (pa_cons pe_int pa_nil)))))))), ?_⟩
    refine ⟨fun σ' H' => ∃ cell : Int, σ' = [some (.ref a), some (.int spot), some (.int cell), none] ∧ H' = H, ?_, ?_⟩
    · refine ⟨_, rfl, _, rfl, _, _, rfl, .inl hS, _, _, rfl, rfl, _, rfl, ?_⟩
      refine ite2 (fun c1 => ?_) (fun c1 => ?_)
      · have c1' : spot < ((ns.map V.int).length : Int) := of_decide_eq_true c1
        rw [List.length_map] at c1'
        obtain ⟨n, hn⟩ := at_ints s0 c1'
        exact ⟨_, rfl, _, rfl, _, _, _, _, rfl, rfl, hS, hn, .inl ⟨_, rfl, _, rfl, rfl⟩⟩
      · exact ⟨_, rfl, _, _, rfl, rfl, .inl ⟨by decide, by decide⟩, _, _, rfl, rfl, _, rfl, rfl⟩
    rintro _ _ ⟨cell, rfl, rfl⟩
    refine ⟨_, rfl, _, rfl, _, _, rfl, rfl, ⟨by decide, by decide, by decide⟩, _, _, rfl, rfl, _, _, rfl, _, _, rfl, rfl, ⟨by decide, by decide, by decide⟩, _, _, rfl, rfl, ⟨by decide, by decide, by decide⟩, _, _, rfl, rfl, wide_mul (a := 250) (b := 250) (by decide +kernel) (by decide +kernel) (by decide) (by decide) (by decide), _, _, rfl, rfl, by show (0 : Int) < _; decide +kernel, ?_⟩
    refine ⟨_, rfl, _, rfl, _, rfl, _, _, rfl, rfl, by show (0 : Int) < _; decide, _, _, rfl, rfl, .inr ⟨by decide, by decide⟩, _, rfl, _, _, rfl, rfl, .inl ⟨by decide, by decide⟩, _, _, rfl, rfl, _, rfl, _, _, rfl, rfl, .inr ⟨_, rfl, _, _, rfl, rfl, .inl ⟨by decide, by decide⟩, _, _, rfl, rfl, _, _, rfl, rfl, by show 3 ≤ sizeLine; decide, fun p hp => ?_⟩⟩
    exact q p _ hp (fun b o e => by rw [upd_ne (ne_of_none e hp)]; exact e) ⟨_, _, _, Int.emod_nonneg _ (by decide +kernel), upd_same⟩

theorem h_law_pick (T : Txt K mg aG dU C CR) (D : Df K mg "_law_pick" s__law_pick) (h_law_roll : Has P w K mg base CX0 "_law_roll" 1 ["_law_dice_here", "_law_total"] spRoll) : Has P w K mg base CX0 "_law_pick" 2 ["_law_dice_here", "_law_items"] spPick := by
  refine D.has sc__law_pick (fun vs H Q E h => ?_) (fun kV doc pm an cdv ct us hl => match us, hl with | [_, _], _ => rfl) (fun f cdv A outer s H vs Q E gd hr h => ?_)
  · obtain ⟨p, q, xs, rfl, _⟩ := h
    rfl
  · obtain ⟨p, q, xs, rfl, hd, hx, ne, l0, l1, k⟩ := h
    refine ⟨_, (pss_one
 (ps_ret (pe_ix ix_seq (pv 1) (pe_callH h_law_roll gd (hr.mono (by decide)) pass0 (pa_cons (pv 0) (pa_cons (pe_callB call_len_seq (by exact rfl) T.zlen PySem.boot_len (pa_cons (pv 1) pa_nil)) pa_nil))) (fun _ _ => rfl)))), ?_⟩
    have hs : SqL K H q xs ∨ SqT K H q xs := hx.imp SqL.of SqT.of
    refine ⟨_, rfl, _, rfl, _, rfl, _, _, rfl, hs, _, _, rfl, hd, (by omega), Nat.lt_of_le_of_lt (show ((xs.length : Int)).natAbs ≤ 1000 by omega) (by decide), fun r H1 r0 r1 g => ?_⟩
    obtain ⟨j, rfl⟩ : ∃ j : Nat, r = (j : Int) := ⟨r.toNat, by omega⟩
    have hj : j < xs.length := by omega
    have hg : xs[j]? = some xs[j] := List.getElem?_eq_getElem hj
    rcases hx with hx | hx
    · exact .inl ⟨q, xs, _, _, rfl, rfl, SqL.of (g.keep _ _ hx ne), atI_nat hg, k _ _ (List.getElem_mem hj) g⟩
    · exact .inr (.inl ⟨q, xs, _, _, rfl, rfl, SqT.of (g.keep _ _ hx ne), atI_nat hg, k _ _ (List.getElem_mem hj) g⟩)

theorem h_init (T : Txt K mg aG dU C CR) (hU : Uni K w aG dU U us) (c : GCls K C) (D : Dc K C "Grid.__init__" s_Grid_WinitW) (m : mg "Grid" = some (.ref C)) : HasC P w K mg base "Grid" C 1 ["self", "name"] (spInit C U) := by
  refine D.has m sc_Grid_WinitW (fun vs H Q E h => ?_) (fun kV doc pm an cdv ct us hl => match us, hl with | [_, _], _ => rfl) (fun f cdv A outer s H vs Q E hr h => ?_)
  · obtain ⟨p, dx, t, rfl, _⟩ := h
    rfl
  · obtain ⟨p, dx, t, rfl, hp, k⟩ := h
    refine ⟨_, (pss_cons
 (ps_if (pt_cmpR op_notIn_seq (pv 1) (pe_globV T.gGRIDS) (by rfl)) (pss_one
 ps_never) pss_nil)
 (pss_cons
 (ps_fld (pv 0) (pv 1) rfl)
 (pss_cons
 (ps_fld (pv 0) (pe_ix ix_kdict (pe_globV T.g_UNITS) (pv 1) (fun _ _ => rfl)) rfl)
 (pss_cons
 (ps_fld (pv 0) (pe_op op_fdiv (pe_callB call_len_seq (by exact rfl) T.zlen PySem.boot_len (pa_cons (pe_ix ix_kdict (pe_globV T.g_UNITS) (pv 1) (fun _ _ => rfl)) pa_nil)) pe_int) rfl)
 (pss_one
 (ps_fld (pv 0) (pe_ifExp (pt_cmpR op_eq (pv 1) pe_str (nomark _)) pe_int pe_int) rfl)))))), ?_⟩
    refine ⟨_, rfl, aG, _, rfl, .inr (hU.grids H), rfl, rfl, _, rfl, ?_⟩
    rw [show (!inV (V.str (nm t)) [.str "square", .str "triangle"]) = false by cases t <;> rfl]
    refine iteF ⟨_, rfl, _, rfl, _, _, _, _, rfl, hp, c.cls, c.name, by show 0 < 1000; decide, ?_⟩
    refine ⟨_, rfl, dU, _, _, rfl, rfl, hU.key t, _, rfl, _, _, _, _, rfl, upd_same, c.cls, c.units, by show 1 < 1000; decide, ?_⟩
    refine ⟨_, rfl, dU, _, _, rfl, rfl, hU.key t, U t, _, rfl, .inr (hU.tup t _), _, _, rfl, rfl, ⟨by decide, by decide⟩, _, rfl, _, _, _, _, rfl, upd_same, c.cls, c.half, Nat.lt_of_le_of_lt (small_put (n := 1) (small_put (n := 0) (Nat.le_refl 0))) (by decide), ?_⟩
    rw [List.length_map, hU.len t]
    refine ⟨_, rfl, rfl, _, rfl, ?_⟩
    rw [show decide (V.str (nm t) = V.str "triangle") = t from by cases t <;> decide +kernel]
    have fin : ∀ v, v = V.int (sl t) → (∃ y, (L2.start N_Grid_WinitW [V.ref p, V.str (nm t)])[0]? = some (some y) ∧ ∃ a C' dx' fs, y = V.ref a ∧ (upd (upd (upd H p (.ins C dx (putF "name" (V.str (nm t)) []))) p (.ins C dx (putF "units" (V.ref (U t)) (putF "name" (V.str (nm t)) [])))) p (.ins C dx (putF "half" (V.int ((num t : Int) / 2)) (putF "units" (V.ref (U t)) (putF "name" (V.str (nm t)) []))))) a = some (.ins C' dx' fs) ∧ Cls K C' ∧ NoAttr K C' "slant" ∧ fs.length < 1000 ∧ Q .non (upd (upd (upd (upd H p (.ins C dx (putF "name" (V.str (nm t)) []))) p (.ins C dx (putF "units" (V.ref (U t)) (putF "name" (V.str (nm t)) [])))) p (.ins C dx (putF "half" (V.int ((num t : Int) / 2)) (putF "units" (V.ref (U t)) (putF "name" (V.str (nm t)) []))))) a (.ins C' dx' (putF "slant" v fs)))) := by
      rintro _ rfl
      refine ⟨_, rfl, _, _, _, _, rfl, upd_same, c.cls, c.slant, Nat.lt_of_le_of_lt (small_put (n := 2) (small_put (n := 1) (small_put (n := 0) (Nat.le_refl 0)))) (by decide), k _ (fun b hb => by rw [upd_ne hb, upd_ne hb, upd_ne hb, upd_ne hb]) ?_⟩
      rw [upd_same]
      rw [show putF "name" (V.str (nm t)) [] = [(("name" : Str), V.str (nm t))] from rfl, put2 (by decide), put3 (by decide) (by decide), put4 (by decide) (by decide) (by decide)]
      rfl
    cases t with
    | false => exact iteF (fin _ rfl)
    | true => exact iteT (fin _ rfl)

theorem h_law_some_row (T : Txt K mg aG dU C CR) (D : Df K mg "_law_some_row" s__law_some_row) (h_law_pick : Has P w K mg base CX0 "_law_pick" 2 ["_law_dice_here", "_law_items"] spPick) (h_law_roll : Has P w K mg base CX0 "_law_roll" 1 ["_law_dice_here", "_law_total"] spRoll) : Has P w K mg base CX0 "_law_some_row" 3 ["_law_dice_here", "_law_around", "_law_most"] (spSomeRow K) := by
  refine D.has sc__law_some_row (fun vs H Q E h => ?_) (fun kV doc pm an cdv ct us hl => match us, hl with | [_, _, _], _ => rfl) (fun f cdv A outer s H vs Q E gd hr h => ?_)
  · obtain ⟨p, t, m0, rfl, _⟩ := h
    rfl
  · obtain ⟨p, t, m0, rfl, m2, m12, die, k⟩ := h
    refine ⟨_, (pss_cons
 (ps_set (i := 3) sc__law_some_row.nd rfl (Or.inr rfl) (pe_callH h_law_pick gd (hr.mono (by decide)) pass0 (pa_cons (pv 0) (pa_cons (pe_lst (pa_cons (pe_lst (pa_cons pe_str pa_nil)) (pa_cons (pe_lst (pa_cons pe_str (pa_cons pe_str pa_nil))) (pa_cons (pe_lst (pa_cons pe_str (pa_cons pe_str (pa_cons pe_str pa_nil)))) pa_nil)))) pa_nil))))
 (pss_cons
 (ps_setLc (i := 4) (own := [("_law_turn", 5)]) (g := gName 5) (tt := tYes) (by rfl) sc__law_some_row.nd rfl rfl (sw_true rfl rfl rfl (by decide +kernel)) (pi_range1 (by exact rfl) T.zrange (pa_cons (pe_op op_add pe_int (pe_callH h_law_roll gd (hr.mono (by decide)) pass0 (pa_cons (pv 0) (pa_cons (pe_op op_sub (pv 2) pe_int) pa_nil)))) pa_nil)) (blkOk_by (own := [("_law_turn", 5)]) (N := N__law_some_row) (sc := defScope s__law_some_row) (by decide +kernel)) (fun _ _ _ _ _ => pg_name (i := 5) sc__law_some_row.nd rfl (Or.inl rfl)) (fun _ _ _ _ _ => pts_nil) (fun _ _ _ _ _ => (pe_tup (pa_cons (pe_callH h_law_pick gd (hr.mono (by decide)) pass0 (pa_cons (pv 0) (pa_cons (pv 3) pa_nil))) (pa_cons (pe_callH h_law_roll gd (hr.mono (by decide)) pass0 (pa_cons (pv 0) (pa_cons (pv 1) pa_nil))) pa_nil)))))
 (pss_one
 (ps_ret (pe_callTy call_tuple_of (by exact rfl) T.ztuple (by decide +kernel) (pa_cons (pv 4) pa_nil)))))), ?_⟩
    refine ⟨_, rfl, by show 1 ≤ sizeLine; decide, fun l1 n1 => ⟨by show 2 ≤ sizeLine; decide, fun l2 n2 => ⟨by show 3 ≤ sizeLine; decide, fun l3 n3 => ⟨by show 3 ≤ sizeLine; decide, fun L nL => ?_⟩⟩⟩⟩
    have f1 := Same.new (o := .lst [.str "a"]) n1
    have f2 := Same.new (o := .lst [.str "a", .str "b"]) n2
    have f3 := Same.new (o := .lst [.str "q", .str "z", .str "a"]) n3
    have f4 := Same.new (o := .lst [.ref l1, .ref l2, .ref l3]) nL
    have fA := ((f1.trans f2).trans f3).trans f4
    have ne1 := die_free die n1
    have ne2 := die_free (die_same die f1) n2
    have ne3 := die_free (die_same die (f1.trans f2)) n3
    have neL := die_free (die_same die ((f1.trans f2).trans f3)) nL
    refine ⟨p, L, _, rfl, die_same die fA, .inl upd_same, neL, by show 0 < 3; decide, by show 3 ≤ 1000; decide, fun v H1 hv g1' => ?_⟩
    have g1 := got_same fA g1'
    obtain ⟨l, ls, rfl, el, nl, l0, l3', good⟩ : ∃ l, ∃ ls : List Str, v = .ref l ∧ H1 l = some (.lst (ls.map V.str)) ∧ l ≠ p ∧ 0 < ls.length ∧ ls.length ≤ 3 ∧ ∀ y ∈ ls, LetS y = true ∧ y ≠ ("x" : Str) := by
      simp only [List.mem_cons, List.not_mem_nil, or_false] at hv
      rcases hv with rfl | rfl | rfl
      · exact ⟨l1, ["a"], rfl, g1'.keep _ _ (f4 _ _ (f3 _ _ (f2 _ _ upd_same))) ne1, ne1, by decide, by decide, fun y hy => by simp only [List.mem_cons, List.not_mem_nil, or_false] at hy; subst hy; exact ⟨by decide +kernel, by decide +kernel⟩⟩
      · exact ⟨l2, ["a", "b"], rfl, g1'.keep _ _ (f4 _ _ (f3 _ _ upd_same)) ne2, ne2, by decide, by decide, fun y hy => by simp only [List.mem_cons, List.not_mem_nil, or_false] at hy; rcases hy with rfl | rfl <;> exact ⟨by decide +kernel, by decide +kernel⟩⟩
      · exact ⟨l3, ["q", "z", "a"], rfl, g1'.keep _ _ (f4 _ _ upd_same) ne3, ne3, by decide, by decide, fun y hy => by simp only [List.mem_cons, List.not_mem_nil, or_false] at hy; rcases hy with rfl | rfl | rfl <;> exact ⟨by decide +kernel, by decide +kernel⟩⟩
    clear hv g1' f1 f2 f3 f4 fA ne1 ne2 ne3 neL
    have d1 := g1.die
    refine ⟨_, rfl, _, rfl, _, _, rfl, rfl, p, _, rfl, d1, by omega, Nat.lt_of_lt_of_le (show _ < 2 ^ 10 by omega) (Nat.pow_le_pow_right (by decide) (by decide)), fun n H2 n0 n11 g2 => ?_⟩
    have d2 := g2.die
    obtain ⟨k', rfl⟩ : ∃ k' : Nat, n = (k' : Int) := ⟨n.toNat, by omega⟩
    have nt : (0 : Int) < (num t : Int) ∧ ((num t : Nat) : Int).natAbs < 2 ^ 2000 := ⟨by cases t <;> decide, Nat.lt_of_lt_of_le (show _ < 2 ^ 10 by cases t <;> decide) (Nat.pow_le_pow_right (by decide) (by decide))⟩
    refine ⟨_, _, rfl, rfl, ((2 + k' : Nat) : Int), rfl, by omega, by omega, fun D hD => lc_range (lo := 0) (n := 2 + k') (fun i' H' => Got p H2 H' ∧ ∃ (r : RowT) (xs : List V), r.length = i' ∧ (∀ it ∈ r, ItemOk t it ∧ it.1 ≠ ("x" : Str)) ∧ H' D = some (.lst xs) ∧ DpAll K H' xs (r.map itemD))
      ⟨Got.new d2 hD, [], [], rfl, fun it h => absurd h List.not_mem_nil, upd_same, .nil⟩ ?_ ?_⟩
    · rintro i' H' hi' ⟨g, r, xs, lr, ok, eD, dx⟩
      refine ⟨rfl, ?_⟩
      simp only [tYes, if_true]
      have nD : D ≠ p := die_free d2 hD
      refine ⟨_, rfl, _, rfl, p, l, _, rfl, g.die, .inl (g.keep _ _ (g2.keep _ _ el nl) nl), nl, by rw [List.length_map]; exact l0, by rw [List.length_map]; omega, fun v H3 hv g3 => ?_⟩
      obtain ⟨y, hy, rfl⟩ := List.mem_map.mp hv
      refine ⟨_, rfl, _, rfl, p, _, rfl, g3.die, nt.1, nt.2, fun m H4 m0 m1 g4 => ?_⟩
      refine ⟨by show 2 ≤ sizeLine; decide, fun q nq => ?_⟩
      have e5 : upd H4 q (.tup [.str y, .int m]) D = some (.lst xs) := Same.new nq _ _ (g4.keep _ _ (g3.keep _ _ eD nD) nD)
      have t5 : TK H' (upd (upd H4 q (.tup [.str y, .int m])) D (.lst (xs ++ [.ref q]))) := (((TK.got g3 g.die).trans (TK.got g4 g3.die)).trans (TK.of (Same.new nq))).trans (TK.over e5)
      have nqD : q ≠ D := fun z => by rw [z, g4.keep _ _ (g3.keep _ _ eD nD) nD] at nq; cases nq
      refine ⟨xs, e5, by rw [dLen dx, List.length_map, lr, sizeLine_eq]; omega, (((g.trans g3).trans g4).trans (Got.new g4.die nq)).over d2 hD _, r ++ [(y, m)], xs ++ [.ref q], by rw [List.length_append, lr]; rfl, fun it h => ?_, upd_same, ?_⟩
      · rcases List.mem_append.mp h with z | z
        · exact ok it z
        · rw [List.mem_singleton.mp z]
          exact ⟨⟨(good y hy).1, m0, m1⟩, (good y hy).2⟩
      · rw [List.map_append]
        refine dSnoc (dps_tk t5 dx (noLs_row r)) ?_
        exact .tup (SqT.of (by rw [upd_ne nqD]; exact upd_same)) (.cons (.str y) (.cons (.int m) .nil))
    · rintro H' ⟨g, r, xs, lr, ok, eD, dx⟩
      refine ⟨_, rfl, D, xs, rfl, .inl ⟨SqL.of eD, fun q nq => k _ r _ ⟨by rw [lr]; omega, by rw [lr]; omega, fun it h => (ok it h).1⟩ (fun it h => (ok it h).2) (by rw [lr]; omega) ((((g1.trans g2).trans g).trans (Got.new g.die nq))) (.tup (SqT.of upd_same) (dps_same (Same.new nq) dx))⟩⟩
theorem h_law_grid_word (D : Df K mg "_law_grid_word" s__law_grid_word) (h_law_pick : Has P w K mg base CX0 "_law_pick" 2 ["_law_dice_here", "_law_items"] spPick) : Has P w K mg base CX0 "_law_grid_word" 3 ["_law_dice_here"] spGridWord := by
  refine D.has sc__law_grid_word (fun vs H Q E h => ?_) (fun kV doc pm an cdv ct us hl => match us, hl with | [_], _ => rfl) (fun f cdv A outer s H vs Q E gd hr h => ?_)
  · obtain ⟨p, rfl, _⟩ := h
    rfl
  · obtain ⟨p, rfl, die, k⟩ := h
    refine ⟨_, (pss_one
 (ps_ret (pe_callH h_law_pick gd (hr.mono (by decide)) pass0 (pa_cons (pv 0) (pa_cons (pe_lst (pa_cons pe_str (pa_cons pe_str pa_nil))) pa_nil))))), ?_⟩
    refine ⟨_, rfl, by show 2 ≤ sizeLine; decide, fun L nL => ?_⟩
    have s1 := Same.new (o := .lst [.str "square", .str "triangle"]) nL
    have ne : L ≠ p := fun z => by obtain ⟨_, _, _, _, e⟩ := die; rw [z, e] at nL; cases nL
    have die1 : Die (upd H L (.lst [.str "square", .str "triangle"])) p := let ⟨l, b, c, h0, e⟩ := die; ⟨l, b, c, h0, s1 _ _ e⟩
    refine ⟨p, L, _, rfl, die1, .inl upd_same, ne, by show 0 < 2; decide, by show 2 ≤ 1000; decide, fun v H' hv g => ?_⟩
    have g2 : Got p H H' := ⟨fun b o e n => g.keep b o (s1 _ _ e) n, g.die⟩
    simp only [List.mem_cons, List.not_mem_nil, or_false] at hv
    rcases hv with rfl | rfl
    · exact k false H' g2
    · exact k true H' g2
theorem h_law_first (T : Txt K mg aG dU C CR) (D : Df K mg "_law_first" s__law_first) : Has P w K mg base CX0 "_law_first" 1 ["_law_words"] (spFirst K) := by
  refine D.has sc__law_first (fun vs H Q E h => ?_) (fun kV doc pm an cdv ct us hl => match us, hl with | [_], _ => rfl) (fun f cdv A outer s H vs Q E gd hr h => ?_)
  · obtain ⟨l, ws, rfl, _⟩ := h
    rfl
  · obtain ⟨l, ws, rfl, hl, len, ok, q⟩ := h
    have hu := hr.units
    refine ⟨_, (pss_cons
 (ps_setLc (i := 1) (own := [("_law_word", 2)]) (g := gName 2) (tt := _) (by rfl) sc__law_first.nd rfl rfl (sw_true rfl rfl rfl (by decide +kernel)) (pi_list (pv 0)) (blkOk_by (own := [("_law_word", 2)]) (N := N__law_first) (sc := defScope s__law_first) (by decide +kernel)) (fun _ _ _ _ _ => pg_name (i := 2) sc__law_first.nd rfl (Or.inl rfl)) (fun _ _ _ _ _ => pts_one (pt_cmpR op_ne (pv 2) pe_str (nomark _))) (fun _ _ _ _ _ => (pv 2)))
 (pss_one
 (ps_ret (pe_ifExp (pt_cmpR (op_neD hu) (pv 1) (pe_lst pa_nil) (nomark _)) (pe_ix ix_list (pv 1) pe_int (fun _ _ => rfl)) pe_str)))), ?_⟩
    refine ⟨_, rfl, l, rfl, ⟨_, hl⟩, fun D hD => lc_list (a := l) (xs := ws.map V.str) (fun i' H' => Same H H' ∧ H' D = some (.lst ((fulls (ws.take i')).map V.str))) ⟨Same.new hD, upd_same⟩ (fun i' H' _ h => sqL_same hl h.1) ?_ ?_⟩
    · rintro i' x H' hx ⟨s', hacc⟩
      obtain ⟨w', hw, rfl⟩ : ∃ w', ws[i']? = some w' ∧ x = .str w' := by
        rw [List.getElem?_map] at hx
        cases e : ws[i']? with
        | none => rw [e] at hx; cases hx
        | some y => rw [e] at hx; cases hx; exact ⟨y, rfl, rfl⟩
      refine ⟨rfl, _, rfl, rfl, _, rfl, ?_⟩
      have ft := fulls_take hw
      by_cases e : w' = Str.ofString ""
      · subst e
        rw [if_pos rfl, List.append_nil] at ft
        exact iteF ⟨s', by rw [ft]; exact hacc⟩
      · rw [if_neg e] at ft
        rw [show (!decide (V.str w' = V.str (Str.ofString ""))) = true by rw [decide_eq_false (fun z => e (by injection z))]; rfl]
        refine iteT ⟨_, rfl, _, hacc, ?_, Same.over s' hD _, ?_⟩
        · rw [List.length_map]
          exact Nat.lt_of_le_of_lt (Nat.le_trans fulls_len (Nat.le_trans (List.length_take_le _ _) (by omega : i' ≤ i'))) (by
            have : i' < ws.length := (List.getElem?_eq_some_iff.mp hw).1
            rw [sizeLine_eq]; omega)
        · rw [upd_same, ft, List.map_append]; rfl
    rintro Hc ⟨sc, hacc⟩
    rw [show ws.take (ws.map V.str).length = ws by rw [List.length_map]; exact List.take_length] at hacc
    obtain ⟨f1, f2⟩ := fulls_first ws
    have okf : ∀ w ∈ fulls ws, PyData.strOk w = true := fun w hw => ok w (List.mem_filter.mp hw).1
    refine ⟨_, rfl, by show 0 ≤ sizeLine; decide, fun N hN => ?_⟩
    have sN := sc.trans (Same.new (o := .lst []) hN)
    refine ⟨.list ((fulls ws).map PyData.str), .list [], .lst (SqL.of (new_keep hacc hN)) dp_strs, .lst (SqL.of upd_same) .nil, strs_lay okf, by decide, _, rfl, ?_⟩
    rw [strs_nil]
    cases e : fulls ws with
    | nil =>
      rw [f1 e] at q
      exact iteF (q _ sN)
    | cons w' r =>
      rw [f2 _ _ e] at q
      rw [e] at hacc
      refine iteT ⟨_, rfl, D, _, _, _, rfl, rfl, SqL.of (new_keep hacc hN), atI_nat (j := 0) rfl, q _ sN⟩
end
end K11
namespace K11
open PySem PySem.Spec PyProof.Rows L2 GL SkE PySem.GLE LamX
/-- a value that is judged as a row: no tuple, or a tuple of values that are told -/
def RowL (K : PySem.W.Frag) (H : Hp) (x : V) : Option (List PyData) → Prop
  | none => ∃ k : Kd, Of K H x k ∧ k.isT = false
  | some ds => ∃ a xs, x = .ref a ∧ SqT K H a xs ∧ xs.length = ds.length ∧ ds.length ≤ 1000 ∧ ∀ (i : Nat) y, xs[i]? = some y → ∃ d, ds[i]? = some d ∧ VD K H y d ∧ Mild d
def rowB (t : Bool) (n : Int) : Option (List PyData) → Bool
  | none => false
  | some ds => (decide (n ≤ (ds.length : Int)) && decide (ds.length ≤ 12)) && ds.all (isItemD t)
def spIsRowL (K : PySem.W.Frag) : Sp := fun vs H Q _ => ∃ x t n o, vs = [x, .int (num t : Nat), .int n] ∧ RowL K H x o ∧ Q (.bl (rowB t n o)) H
section
variable {P : Program} {w : World} {K : PySem.W.Frag} {mg : Str → Option Value} {base : Heap}
variable {aG dU C CR : Addr} {U : Bool → Addr} {us : Bool → List Addr}
theorem h_law_is_row (T : Txt K mg aG dU C CR) (D : Df K mg "_law_is_row" s__law_is_row) : Has P w K mg base CX0 "_law_is_row" 1 ["_law_value", "_law_around", "_law_few"] (spIsRowL K) := by
  refine D.has sc__law_is_row (fun vs H Q E h => ?_) (fun kV doc pm an cdv ct us hl => match us, hl with | [_, _, _], _ => rfl) (fun f cdv A outer s H vs Q E gd hr h => ?_)
  · obtain ⟨x, t, n, o, rfl, _⟩ := h
    rfl
  · obtain ⟨x, t, n, o, rfl, hx, k⟩ := h
    refine ⟨_, (pss_cons
 (ps_if (PW.pt (pw_or (pt_not (pt_val (pe_callB call_isi (by exact rfl) T.zisinstance (by decide +kernel) (pa_cons (pv 0) (pa_cons (pe_bltn (v := .ty "tuple") (by exact rfl) T.ztuple (by decide +kernel) rfl) pa_nil))))) (pw_or1 (pt_not (pt_chain op_le op_le (pv 2) (pe_callB call_len_seq (by exact rfl) T.zlen PySem.boot_len (pa_cons (pv 0) pa_nil)) pe_int))))) (pss_one
 (ps_ret pe_bl)) pss_nil)
 (pss_cons
 (ps_for PassesOwn.never rfl (pi_tup (pv 0)) (pg_name (i := 3) sc__law_is_row.nd rfl (Or.inl rfl)) (pss_cons
 (ps_if (PW.pt (pw_or (pt_not (pt_val (pe_callB call_isi (by exact rfl) T.zisinstance (by decide +kernel) (pa_cons (pv 3) (pa_cons (pe_bltn (v := .ty "tuple") (by exact rfl) T.ztuple (by decide +kernel) rfl) pa_nil))))) (pw_or (pt_cmpR op_ne (pe_callB call_len_seq (by exact rfl) T.zlen PySem.boot_len (pa_cons (pv 3) pa_nil)) pe_int (nomark _)) (pw_or (pt_not (pt_val (pe_callB call_isi (by exact rfl) T.zisinstance (by decide +kernel) (pa_cons (pe_ix ix_tup (pv 3) pe_int (fun _ _ => rfl)) (pa_cons (pe_bltn (v := .ty "str") (by exact rfl) T.zstr (by decide +kernel) rfl) pa_nil))))) (pw_or1 (pt_cmpR op_ne (pe_callB call_len_str (by exact rfl) T.zlen PySem.boot_len (pa_cons (pe_ix ix_tup (pv 3) pe_int (fun _ _ => rfl)) pa_nil)) pe_int (nomark _))))))) (pss_one
 (ps_ret pe_bl)) pss_nil)
 (pss_cons
 (ps_if (PW.pt (pw_or (pt_cmpR op_notIn_sign (pe_ix ix_tup (pv 3) pe_int (fun _ _ => rfl)) pe_str (by rfl)) (pw_or (pt_not (pt_val (pe_callB call_isi (by exact rfl) T.zisinstance (by decide +kernel) (pa_cons (pe_ix ix_tup (pv 3) pe_int (fun _ _ => rfl)) (pa_cons (pe_bltn (v := .ty "int") (by exact rfl) T.zint (by decide +kernel) rfl) pa_nil))))) (pw_or1 (pt_val (pe_callB call_isi (by exact rfl) T.zisinstance (by decide +kernel) (pa_cons (pe_ix ix_tup (pv 3) pe_int (fun _ _ => rfl)) (pa_cons (pe_bltn (v := .ty "bool") (by exact rfl) T.zbool (by decide +kernel) rfl) pa_nil)))))))) (pss_one
 (ps_ret pe_bl)) pss_nil)
 (pss_one
 (ps_if (pt_not (pt_chain op_le op_lt pe_int (pe_ix ix_tup (pv 3) pe_int (fun _ _ => rfl)) (pv 1))) (pss_one
 (ps_ret pe_bl)) pss_nil)))))
 (pss_one
 (ps_ret pe_bl)))), ?_⟩
    dsimp only [cxOf, Cx.nox]
    cases o with
    | none =>
      obtain ⟨kd, on, nt⟩ := hx
      refine ⟨_, rfl, _, _, _, _, _, rfl, .ty _, on, GL.kit_tup _, _, rfl, ?_⟩
      rw [nt]
      exact if_nf (iteT k)
    | some ds =>
    obtain ⟨a, xs, rfl, hs, ln, few, each⟩ := hx
    refine ⟨_, rfl, _, _, _, _, _, rfl, .ty _, tup_of hs, GL.kit_tup _, _, rfl, iteF ?_⟩
    refine ⟨_, rfl, _, rfl, a, xs, rfl, .inr hs, _, _, rfl, rfl, _, rfl, ?_⟩
    have eR : rowB t n (some ds) = ((decide (n ≤ (ds.length : Int)) && decide (ds.length ≤ 12)) && ds.all (isItemD t)) := rfl
    rw [eR] at k
    by_cases c1 : n ≤ (ds.length : Int)
    case neg =>
      rw [decide_eq_false c1, Bool.false_and, Bool.false_and] at k
      rw [decide_eq_false (show ¬ n ≤ (xs.length : Int) by omega)]
      exact iteF ⟨_, rfl, iteT k⟩
    rw [decide_eq_true c1, Bool.true_and] at k
    rw [decide_eq_true (show n ≤ (xs.length : Int) by omega)]
    refine iteT ⟨_, _, rfl, rfl, _, rfl, ?_⟩
    by_cases c2 : ds.length ≤ 12
    case neg =>
      rw [decide_eq_false c2, Bool.false_and] at k
      rw [decide_eq_false (show ¬ (xs.length : Int) ≤ 12 by omega)]
      exact if_nf k
    rw [decide_eq_true c2, Bool.true_and] at k
    rw [decide_eq_true (show (xs.length : Int) ≤ 12 by omega)]
    refine iteF ?_
    have no : ∀ (i : Nat) d, ds[i]? = some d → isItemD t d = false → Q (.bl false) H := fun i d e b => by
      have z : ds.all (isItemD t) = false := by
        rw [List.all_eq_false]
        exact ⟨d, List.mem_of_getElem? e, by rw [b]; decide⟩
      rw [z] at k
      exact k
    refine ⟨_, rfl, a, rfl, ⟨_, hs⟩, for_tup (a := a) (xs := xs) (fun i' σ' H' => ∃ v3, σ' = [some (.ref a), some (.int (num t : Nat)), some (.int n), v3] ∧ H' = H ∧ ∀ d ∈ ds.take i', isItemD t d = true) ⟨none, rfl, rfl, fun it h => by simp at h⟩ (fun i' σ' H' _ ⟨_, _, e, _⟩ => by rw [e]; exact hs) ?_ ?_⟩
    · rintro i' x _ _ hx' ⟨v3, rfl, rfl, oks⟩
      obtain ⟨d, hd, vd, mild⟩ := each i' x hx'
      have bad := no i' d hd
      have good : isItemD t d = true → ∀ e ∈ ds.take (i' + 1), isItemD t e = true := fun b e he => by
        rw [List.take_add_one, hd] at he
        rcases List.mem_append.mp he with z | z
        · exact oks e z
        · have z : e = d := by simpa using z
          rw [z]; exact b
      refine ⟨_, rfl, _, _, _, _, _, rfl, .ty _, vd.of, GL.kit_tup _, _, rfl, ?_⟩
      by_cases tp : (kdD d).isT = true
      case neg =>
        rw [Bool.not_eq_true] at tp
        rw [tp]
        refine if_nf (iteT (bad ?_))
        cases d <;> first | rfl | cases tp
      cases d with
      | tuple es =>
        obtain ⟨q, ys, rfl, hq, lq⟩ := dTup vd.tup
        have lny := dLen lq
        refine iteF ⟨_, rfl, q, _, rfl, .inr hq, rfl, _, rfl, ?_⟩
        by_cases h2 : es.length = 2
        case neg =>
          have z : (!decide (V.int (ys.length : Int) = V.int 2)) = true := by rw [decide_eq_false (fun z => h2 (by injection z with z; omega))]; rfl
          show if (!decide (V.int (ys.length : Int) = V.int 2)) = true then _ else _
          rw [z]
          exact iteT (iteT (bad (item_not h2)))
        match es, h2, lq with
        | [d1, d2], _, lq =>
          cases lq with
          | cons l1 l2 => cases l2 with
            | cons l3 l4 =>
              cases l4
              rename_i u v
              have eI : isItemD t (.tuple [d1, d2]) = (isLetD d1 && isTurnD t d2) := rfl
              rw [eI] at bad good
              refine if_ne rfl ?_
              refine ⟨_, rfl, _, _, _, _, rfl, rfl, hq, atI_nat (j := 0) rfl, _, _, _, _, _, rfl, .ty _, dOf l1, GL.kit_str _, _, rfl, ?_⟩
              by_cases s1 : (kdD d1).isS = true
              case neg =>
                rw [Bool.not_eq_true] at s1
                rw [s1]
                refine if_nf (iteT (bad ?_))
                cases d1 <;> first | rfl | cases s1
              cases d1 with
              | str y =>
                obtain rfl := dStr l1
                have sy : y.length ≤ 1000 := mild.2 _ (by simp) y rfl
                refine iteF ⟨_, rfl, _, _, _, _, rfl, rfl, hq, atI_nat (j := 0) rfl, y, rfl, Nat.le_trans sy (by rw [sizeLine_eq]; decide), rfl, _, rfl, ?_⟩
                by_cases y1 : y.length = 1
                case neg =>
                  have z : (!decide (V.int (y.length : Int) = V.int 1)) = true := by rw [decide_eq_false (fun z => y1 (by injection z with z; omega))]; rfl
                  show if (!decide (V.int (y.length : Int) = V.int 1)) = true then _ else _
                  rw [z]
                  refine iteT (bad ?_)
                  show ((decide (y.length = 1) && _) && _) = false
                  rw [decide_eq_false y1]
                  rfl
                obtain ⟨c, rfl⟩ := GL.one_sign y1
                refine if_ne rfl ?_
                have eL : isLetD (.str ⟨#[c]⟩) = (decide (97 ≤ c) && decide (c ≤ 122)) := by
                  show (decide (1 = 1) && ([c].all fun c => decide (97 ≤ c) && decide (c ≤ 122))) = _
                  simp
                rw [eL] at bad good
                refine ⟨_, rfl, _, _, _, _, rfl, rfl, hq, atI_nat (j := 0) rfl, c, _, rfl, rfl, _, rfl, ?_⟩
                rw [letters_mem]
                cases lc : (decide (97 ≤ c) && decide (c ≤ 122)) with
                | false =>
                  rw [lc] at bad
                  exact if_nf (iteT (bad rfl))
                | true =>
                rw [lc, Bool.true_and] at bad good
                refine (iteF ?_ : if (!true) = true then _ else _)
                refine ⟨_, rfl, _, _, _, _, rfl, rfl, hq, atI_nat (j := 1) rfl, _, _, _, _, _, rfl, .ty _, dOf l3, GL.kit_int _, _, rfl, ?_⟩
                by_cases i1 : (kdD d2).isI = true
                case neg =>
                  rw [Bool.not_eq_true] at i1
                  rw [i1]
                  refine if_nf (iteT (bad ?_))
                  cases d2 <;> first | rfl | cases i1
                rw [i1]
                refine (iteF ?_ : if (!true) = true then _ else _)
                refine ⟨_, rfl, _, _, _, _, rfl, rfl, hq, atI_nat (j := 1) rfl, _, _, _, _, _, rfl, .ty _, dOf l3, GL.kit_bool _, _, rfl, ?_⟩
                cases d2 with
                | bool b => exact iteT (bad rfl)
                | int i =>
                  obtain rfl := dInt l3
                  refine iteF ?_
                  refine ⟨_, rfl, _, _, _, _, rfl, rfl, hq, atI_nat (j := 1) rfl, _, _, rfl, rfl, _, rfl, ?_⟩
                  have eT : isTurnD t (.int i) = ((isIntV (.int i) && decide ((0 : Int) ≤ i)) && decide (i < (num t : Int))) := rfl
                  rw [eT] at bad good
                  by_cases i0 : (0 : Int) ≤ i
                  case neg =>
                    rw [decide_eq_false i0] at bad ⊢
                    exact iteF ⟨_, rfl, iteT (bad (by rw [Bool.and_false]; rfl))⟩
                  rw [decide_eq_true i0] at bad good ⊢
                  refine iteT ⟨_, rfl, _, _, rfl, rfl, _, rfl, ?_⟩
                  by_cases it : i < (num t : Int)
                  case neg =>
                    rw [decide_eq_false it] at bad ⊢
                    exact iteT (bad (by rw [Bool.and_false]))
                  rw [decide_eq_true it] at good ⊢
                  have n6 : (num t : Int) ≤ 6 := by cases t <;> decide
                  have nB : isIntV (.int i) = true := short_of (by omega)
                  refine iteF ⟨_, rfl, rfl, good (by rw [nB]; rfl)⟩
                | _ => cases i1
              | _ => cases s1
      | _ => cases tp
    · rintro _ _ ⟨v3, rfl, rfl, oks⟩
      rw [ln, List.take_length] at oks
      rw [List.all_eq_true.mpr oks] at k
      exact k
end
end K11
namespace K11
open PySem PySem.Spec PyProof.Rows L2 GL SkE PySem.GLE LamX
abbrev s__law_some_value : Stmt := topS 49
abbrev N__law_some_value : List Str := ["_law_dice_here", "_law_around", "_law_row", "_law_odd"]
theorem sc__law_some_value : FnScope N__law_some_value ["_law_dice_here", "_law_around"] (defScope s__law_some_value) := ⟨rfl, rfl, rfl, by decide +kernel, rfl, by decide +kernel, by decide +kernel⟩
/-- a value of the law's lists -/
def GV (K : PySem.W.Frag) (H : Hp) (x : V) : Prop := ∃ d, VD K H x d ∧ MildD d ∧ Mild d ∧ ∀ ds, d = .tuple ds → SeqAt.shaped d = true
def spSomeValue (K : PySem.W.Frag) : Sp := fun vs H Q _ => ∃ p t, vs = [.ref p, .int (num t : Nat)] ∧ Die H p ∧ ∀ x H', Got p H H' → GV K (wo p H') x → Q x H'
def shortB : PyData → Bool
  | .str y => decide (y.length ≤ 1000)
  | _ => true
def mild1 : PyData → Bool
  | .str y => decide (y.length ≤ 1000)
  | .tuple ds => decide (ds.length ≤ 1000) && ds.all shortB
  | _ => true
def mildB : PyData → Bool
  | .tuple ds => mild1 (.tuple ds) && ds.all mild1
  | d => mild1 d
theorem mild1_of {d : PyData} (h : mild1 d = true) : Mild d := by
  cases d with
  | str y => exact (of_decide_eq_true (show decide (y.length ≤ 1000) = true from h) : y.length ≤ 1000)
  | tuple ds =>
    have h : (decide (ds.length ≤ 1000) && ds.all shortB) = true := h
    rw [Bool.and_eq_true, decide_eq_true_eq, List.all_eq_true] at h
    exact ⟨h.1, fun d hd y e => by
      have z := h.2 d hd
      rw [e] at z
      exact of_decide_eq_true z⟩
  | _ => trivial
theorem mild_of {d : PyData} (h : mildB d = true) : MildD d ∧ Mild d := by
  cases d with
  | tuple ds =>
    have h : (mild1 (.tuple ds) && ds.all mild1) = true := h
    rw [Bool.and_eq_true, List.all_eq_true] at h
    have m := mild1_of h.1
    exact ⟨fun es e => by cases e; exact ⟨m.1, fun x hx => mild1_of (h.2 x hx)⟩, m⟩
  | _ => exact ⟨(fun es e => by cases e), mild1_of h⟩
section
variable {K : PySem.W.Frag} {H H' : Hp} {x : V} {σ : L2.St} {t : TE} {ts : TA} {d : PyData} {ds : List PyData} {n : Nat}
theorem GV.same (h : GV K H x) (s : Same H H') : GV K H' x := let ⟨d, a, b⟩ := h; ⟨d, a.same s, b⟩
def mildC (d : PyData) : Bool := mildB d && SeqAt.shaped d
theorem GV.of (h : Dp K H x d) (m : mildC d = true) : GV K H x := by
  have z := Bool.and_eq_true_iff.mp m
  exact ⟨d, .inl h, (mild_of z.1).1, (mild_of z.1).2, fun _ _ => z.2⟩
theorem hpk {p : Addr} (s : Same H H') (h : H p ≠ none) : H' p ≠ none := by
  cases e : H p with
  | none => exact absurd e h
  | some o => rw [s _ _ e]; simp
theorem np_ne {p q : Addr} (h : H p ≠ none) (n : H q = none) : q ≠ p := fun z => h (by rw [← z]; exact n)
/-- what is made beside p: data that p is no part of -/
def MkV (K : PySem.W.Frag) (p : Addr) (σ : L2.St) (t : TE) (d : PyData) : Prop := ∀ H Q, H p ≠ none → (∀ v H', Same H H' → Dp K (wo p H') v d → Q v H') → t σ H Q
def MkA (K : PySem.W.Frag) (p : Addr) (σ : L2.St) (ts : TA) (ds : List PyData) : Prop := ∀ H Q, H p ≠ none → (∀ vs H', Same H H' → DpAll K (wo p H') vs ds → Q vs H') → ts σ H Q
def MkG (K : PySem.W.Frag) (p : Addr) (σ : L2.St) (ts : TA) (n : Nat) : Prop := ∀ H Q, H p ≠ none → (∀ vs H', Same H H' → (∀ v ∈ vs, GV K (wo p H') v) → vs.length = n → Q vs H') → ts σ H Q
variable {p : Addr}
theorem mv_str {y : Str} : MkV K p σ (tC (.str y)) (.str y) := fun H Q _ k => k _ H same_rfl (.str y)
theorem mv_int {i : Int} : MkV K p σ (tC (.int i)) (.int i) := fun H Q _ k => k _ H same_rfl (.int i)
theorem mv_bl {b : Bool} : MkV K p σ (tC (.bl b)) (.bool b) := fun H Q _ k => k _ H same_rfl (.bl b)
theorem mv_non : MkV K p σ (tC .non) .none := fun H Q _ k => k _ H same_rfl .non
theorem mv_var {j : Nat} {i : Int} (e : σ[j]? = some (some (.int i))) : MkV K p σ (tVar j) (.int i) := fun H Q _ k => ⟨_, e, k _ H same_rfl (.int i)⟩
theorem mv_neg {i : Int} : MkV K p σ (tUn (rU fun i => V.int (-i)) (tC (.int i))) (.int (-i)) := fun H Q _ k => ⟨_, rfl, k _ H same_rfl (.int (-i))⟩
theorem ma_nil : MkA K p σ tNil [] := fun H Q _ k => k [] H same_rfl .nil
theorem ma_cons (a : MkV K p σ t d) (b : MkA K p σ ts ds) : MkA K p σ (tCons t ts) (d :: ds) := fun H Q hp k => a H _ hp fun v H1 s1 dv => b H1 _ (hpk s1 hp) fun vs H2 s2 dvs => k _ H2 (s1.trans s2) (.cons (dp_same (wo_mono s2) dv) dvs)
theorem mv_tup (a : MkA K p σ ts ds) (few : ds.length ≤ 1000 := by simp) : MkV K p σ (tTup ts) (.tuple ds) := fun H Q hp k => a H _ hp fun vs H1 s1 dv => ⟨by rw [dLen dv, sizeLine_eq]; omega, fun q nq => k _ _ (s1.trans (Same.new nq)) (.tup (SqT.of (wo_at upd_same (np_ne (hpk s1 hp) nq))) (dps_same (wo_mono (Same.new nq)) dv))⟩
theorem mv_lst (a : MkA K p σ ts ds) (few : ds.length ≤ 1000 := by simp) : MkV K p σ (tLst ts) (.list ds) := fun H Q hp k => a H _ hp fun vs H1 s1 dv => ⟨by rw [dLen dv, sizeLine_eq]; omega, fun q nq => k _ _ (s1.trans (Same.new nq)) (.lst (SqL.of (wo_at upd_same (np_ne (hpk s1 hp) nq))) (dps_same (wo_mono (Same.new nq)) dv))⟩
theorem dps_rep {y : V} {d : PyData} (h : Dp K H y d) : ∀ n, DpAll K H (List.replicate n y) (List.replicate n d)
  | 0 => .nil
  | n + 1 => .cons h (dps_rep h n)
theorem flat_rep (y : V) : ∀ n : Nat, (List.replicate n [y]).flatten = List.replicate n y
  | 0 => rfl
  | n + 1 => by rw [List.replicate_succ, List.flatten_cons, flat_rep y n, List.replicate_succ]; rfl
theorem sqT_wo {q : Addr} {xs : List V} (h : SqT K (wo p H) q xs) : SqT K H q xs := sqT_same h wo_same
theorem mv_rep {m : Nat} (a : MkV K p σ t (.tuple [d])) (lo : 2 ≤ m) (hi : m ≤ 1000) : MkV K p σ (tOp (rRepT K) t (tC (.int (m : Int)))) (.tuple (List.replicate m d)) := fun H Q hp k => a H _ hp fun v H1 s1 dv => by
  obtain ⟨q, xs, rfl, hs, l⟩ := dTup dv
  cases l with
  | cons h l2 =>
    cases l2
    refine ⟨q, (m : Int), _, rfl, rfl, sqT_wo hs, (by simp), by omega, by omega, by show 1 ≤ 1000; decide, fun r nr => k _ _ (s1.trans (Same.new nr)) ?_⟩
    rw [Int.toNat_natCast, flat_rep]
    exact .tup (SqT.of (wo_at upd_same (np_ne (hpk s1 hp) nr))) (dps_rep (dp_same (wo_mono (Same.new nr)) h) m)
theorem mg_nil : MkG K p σ tNil 0 := fun H Q _ k => k [] H same_rfl (fun v h => by cases h) rfl
theorem mg_cons (a : MkV K p σ t d) (m : mildC d = true) (b : MkG K p σ ts n) : MkG K p σ (tCons t ts) (n + 1) := fun H Q hp k => a H _ hp fun v H1 s1 dv => b H1 _ (hpk s1 hp) fun vs H2 s2 g l => k _ H2 (s1.trans s2) (fun y hy => by
  rcases List.mem_cons.mp hy with rfl | z
  · exact GV.of (dp_same (wo_mono s2) dv) m
  · exact g y z) (by rw [List.length_cons, l])
theorem mg_dict (b : MkG K p σ ts n) : MkG K p σ (tCons tDNewK ts) (n + 1) := fun H Q hp k q nq => b _ _ (hpk (Same.new nq) hp) fun vs H2 s2 g l => k _ H2 ((Same.new nq).trans s2) (fun y hy => by
  rcases List.mem_cons.mp hy with rfl | z
  · exact ⟨.dict [], .inr ⟨rfl, q, rfl, wo_at (s2 _ _ upd_same) (np_ne hp nq)⟩, (fun es e => by cases e), trivial, fun _ e => by cases e⟩
  · exact g y z) (by rw [List.length_cons, l])
/-- a new list of such values -/
theorem ml_lst (hp : H p ≠ none) (b : MkG K p σ ts n) (few : n ≤ 1000) {Q : VK} (k : ∀ l vs H', Same H H' → H l = none → H' l = some (.lst vs) → (∀ v ∈ vs, GV K (wo p H') v) → vs.length = n → Q (.ref l) H') : tLst ts σ H Q := b H _ hp fun vs H1 s1 g l => ⟨by rw [l, sizeLine_eq]; omega, fun q nq => k q vs _ (s1.trans (Same.new nq)) (by
  cases e : H q with
  | none => rfl
  | some o => rw [s1 _ _ e] at nq; cases nq) upd_same (fun v hv => (g v hv).same (wo_mono (Same.new nq))) l⟩
end
section
variable {P : Program} {w : World} {K : PySem.W.Frag} {mg : Str → Option Value} {base : Heap}
variable {aG dU C CR : Addr} {U : Bool → Addr} {us : Bool → List Addr}
theorem h_law_some_value (T : Txt K mg aG dU C CR) (D : Df K mg "_law_some_value" s__law_some_value) (h_law_pick : Has P w K mg base CX0 "_law_pick" 2 ["_law_dice_here", "_law_items"] spPick) (h_law_some_row : Has P w K mg base CX0 "_law_some_row" 3 ["_law_dice_here", "_law_around", "_law_most"] (spSomeRow K)) : Has P w K mg base CX0 "_law_some_value" 4 ["_law_dice_here", "_law_around"] (spSomeValue K) := by
  refine D.has sc__law_some_value (fun vs H Q E h => ?_) (fun kV doc pm an cdv ct us hl => match us, hl with | [_, _], _ => rfl) (fun f cdv A outer s H vs Q E gd hr h => ?_)
  · obtain ⟨p, t, rfl, _⟩ := h
    rfl
  · obtain ⟨p, t, rfl, die, k⟩ := h
    refine ⟨_, (pss_cons
 (ps_set (i := 2) sc__law_some_value.nd rfl (Or.inl rfl) (pe_callH h_law_some_row gd (hr.mono (by decide)) pass0 (pa_cons (pv 0) (pa_cons (pv 1) (pa_cons pe_int pa_nil)))))
 (pss_cons
 (ps_set (i := 3) sc__law_some_value.nd rfl (Or.inl rfl) (pe_lst (pa_cons (pe_tup pa_nil) (pa_cons (pe_tup (pa_cons pe_str (pa_cons pe_int pa_nil))) (pa_cons (pe_tup (pa_cons (pe_tup (pa_cons pe_str (pa_cons pe_int pa_nil))) pa_nil)) (pa_cons (pe_tup (pa_cons (pe_tup (pa_cons pe_str (pa_cons pe_int pa_nil))) (pa_cons (pe_tup (pa_cons pe_str (pa_cons (pv 1) pa_nil))) pa_nil))) (pa_cons (pe_tup (pa_cons (pe_tup (pa_cons pe_str (pa_cons pe_int pa_nil))) (pa_cons (pe_tup (pa_cons pe_str (pa_cons pe_int pa_nil))) pa_nil))) (pa_cons (pe_tup (pa_cons (pe_tup (pa_cons pe_str (pa_cons pe_int pa_nil))) (pa_cons (pe_tup (pa_cons pe_str (pa_cons pe_bl pa_nil))) pa_nil))) (pa_cons pe_non (pa_cons pe_int pa_nil))))))))))
 (pss_cons
 (ps_set (i := 3) sc__law_some_value.nd rfl (Or.inl rfl) (pe_op op_cat (pv 3) (pe_lst (pa_cons (pe_lst (pa_cons (pe_tup (pa_cons pe_str (pa_cons pe_int pa_nil))) (pa_cons (pe_tup (pa_cons pe_str (pa_cons pe_int pa_nil))) pa_nil))) (pa_cons (pe_tup (pa_cons (pe_tup (pa_cons pe_str (pa_cons pe_int pa_nil))) (pa_cons (pe_tup (pa_cons pe_str (pa_cons (pe_un un_neg pe_int) pa_nil))) pa_nil))) (pa_cons (pe_tup (pa_cons (pe_tup (pa_cons pe_str (pa_cons pe_int pa_nil))) (pa_cons (pe_tup (pa_cons pe_str (pa_cons pe_int pa_nil))) pa_nil))) (pa_cons (pe_tup (pa_cons (pe_tup (pa_cons pe_str (pa_cons pe_int pa_nil))) (pa_cons pe_non pa_nil))) (pa_cons pe_str (pa_cons pe_dnewK pa_nil)))))))))
 (pss_cons
 (ps_set (i := 3) sc__law_some_value.nd rfl (Or.inl rfl) (pe_op op_cat (pv 3) (pe_lst (pa_cons (pe_op op_repT (pe_tup (pa_cons (pe_tup (pa_cons pe_str (pa_cons pe_int pa_nil))) pa_nil)) pe_int) (pa_cons (pe_op op_repT (pe_tup (pa_cons (pe_tup (pa_cons pe_str (pa_cons pe_int pa_nil))) pa_nil)) pe_int) (pa_cons (pe_tup (pa_cons (pe_tup (pa_cons pe_str (pa_cons pe_int pa_nil))) (pa_cons (pe_tup (pa_cons pe_str (pa_cons pe_int (pa_cons pe_int pa_nil)))) pa_nil))) (pa_cons (pe_tup (pa_cons (pe_tup (pa_cons pe_str (pa_cons pe_int pa_nil))) (pa_cons (pe_lst (pa_cons pe_str (pa_cons pe_int pa_nil))) pa_nil))) pa_nil)))))))
 (pss_cons
 (ps_expr (pe_bm PySem.F.plainAttrs_list PySem.F.slot_list_append PySem.F.type_list_append mt_append (pv 3) (pa_cons (pe_tup (pa_cons (pe_tup (pa_cons pe_int (pa_cons pe_str pa_nil))) (pa_cons (pe_tup (pa_cons pe_str (pa_cons pe_int pa_nil))) pa_nil))) pa_nil)))
 (pss_one
 (ps_ret (pe_callH h_law_pick gd (hr.mono (by decide)) pass0 (pa_cons (pv 0) (pa_cons (pe_op op_cat (pe_op op_rep (pe_lst (pa_cons (pv 2) pa_nil)) pe_int) (pv 3)) pa_nil)))))))))), ?_⟩
    dsimp only [cxOf, Cx.nox]
    refine ⟨_, rfl, _, rfl, p, t, 12, rfl, by decide, by decide, die, fun x r H1 ok _ _ g1 dx => ?_⟩
    have A0 : ∀ {σ : L2.St} {y : String} {i : Int}, MkV K p σ (tTup (tCons (tC (V.str (Str.ofString y))) (tCons (tC (V.int i)) tNil))) (.tuple [.str (Str.ofString y), .int i]) := fun {σ y i} => mv_tup (ma_cons mv_str (ma_cons mv_int ma_nil))
    have hp1 : H1 p ≠ none := by obtain ⟨_, _, _, _, e⟩ := g1.die; rw [e]; simp
    dsimp only [gName, tSeq, tAsg]
    refine ml_lst (p := p) hp1 (n := 8) (mg_cons (mv_tup ma_nil) (by decide +kernel) (mg_cons A0 (by decide +kernel) (mg_cons (mv_tup (ma_cons A0 ma_nil)) (by decide +kernel) (mg_cons (mv_tup (ma_cons A0 (ma_cons (mv_tup (ma_cons mv_str (ma_cons (mv_var rfl) ma_nil))) ma_nil))) (by cases t <;> decide +kernel) (mg_cons (mv_tup (ma_cons A0 (ma_cons A0 ma_nil))) (by decide +kernel) (mg_cons (mv_tup (ma_cons A0 (ma_cons (mv_tup (ma_cons mv_str (ma_cons mv_bl ma_nil))) ma_nil))) (by decide +kernel) (mg_cons mv_non (by decide +kernel) (mg_cons mv_int (by decide +kernel) mg_nil)))))))) (by decide) fun l1 v1 H2 s2 n1 e1 g1' c1 => ?_
    refine ⟨_, rfl, ?_⟩
    refine ml_lst (p := p) (hpk s2 hp1) (n := 6) (mg_cons (mv_lst (ma_cons A0 (ma_cons A0 ma_nil))) (by decide +kernel) (mg_cons (mv_tup (ma_cons A0 (ma_cons (mv_tup (ma_cons mv_str (ma_cons mv_neg ma_nil))) ma_nil))) (by decide +kernel) (mg_cons (mv_tup (ma_cons A0 (ma_cons A0 ma_nil))) (by decide +kernel) (mg_cons (mv_tup (ma_cons A0 (ma_cons mv_non ma_nil))) (by decide +kernel) (mg_cons mv_str (by decide +kernel) (mg_dict mg_nil)))))) (by decide) fun l2 v2 H3 s3 n2 e2 g2' c2 => ?_
    refine ⟨l1, l2, v1, v2, rfl, rfl, s3 _ _ e1, e2, by rw [c1, c2, sizeLine_eq]; decide, fun l3 n3 => ?_⟩
    have s23 := (s2.trans s3).trans (Same.new (o := .lst (v1 ++ v2)) n3)
    have e3 : (upd H3 l3 (.lst (v1 ++ v2))) l3 = some (.lst (v1 ++ v2)) := upd_same
    have gv3 : ∀ v ∈ v1 ++ v2, GV K (wo p (upd H3 l3 (.lst (v1 ++ v2)))) v := fun v hv => by
      rcases List.mem_append.mp hv with z | z
      · exact ((g1' v z).same (wo_mono s3)).same (wo_mono (Same.new n3))
      · exact (g2' v z).same (wo_mono (Same.new n3))
    have c3 : (v1 ++ v2).length = 14 := by rw [List.length_append, c1, c2]
    generalize upd H3 l3 (.lst (v1 ++ v2)) = H4 at *
    generalize v1 ++ v2 = v3 at *
    clear g1' g2' e1 e2 s2 s3 n3 n1 n2
    refine ⟨_, rfl, ?_⟩
    refine ml_lst (p := p) (hpk s23 hp1) (n := 4) (mg_cons (mv_rep (m := 12) (mv_tup (ma_cons A0 ma_nil)) (by decide) (by decide)) (by decide +kernel) (mg_cons (mv_rep (m := 13) (mv_tup (ma_cons A0 ma_nil)) (by decide) (by decide)) (by decide +kernel) (mg_cons (mv_tup (ma_cons A0 (ma_cons (mv_tup (ma_cons mv_str (ma_cons mv_int (ma_cons mv_int ma_nil)))) ma_nil))) (by decide +kernel) (mg_cons (mv_tup (ma_cons A0 (ma_cons (mv_lst (ma_cons mv_str (ma_cons mv_int ma_nil))) ma_nil))) (by decide +kernel) mg_nil)))) (by decide) fun l4 v4 H5 s5 n4 e4 g4' c4 => ?_
    refine ⟨l3, l4, v3, v4, rfl, rfl, s5 _ _ e3, e4, by rw [c3, c4, sizeLine_eq]; decide, fun l5 n5 => ?_⟩
    have s15 := s23.trans s5
    have gv5 : ∀ v ∈ v3 ++ v4, GV K (wo p H5) v := fun v hv => by
      rcases List.mem_append.mp hv with z | z
      · exact (gv3 v z).same (wo_mono s5)
      · exact g4' v z
    have c5 : (v3 ++ v4).length = 18 := by rw [List.length_append, c3, c4]
    generalize v3 ++ v4 = v5 at *
    clear g4' gv3 e3 e4 s23 s5 n4
    refine ⟨_, rfl, ?_⟩
    refine ⟨.inl ⟨rfl, _, SqL.of upd_same⟩, ?_⟩
    refine (mv_tup (K := K) (p := p) (ma_cons (mv_tup (ma_cons mv_int (ma_cons mv_str ma_nil))) (ma_cons A0 ma_nil))) _ _ (hpk (s15.trans (Same.new n5)) hp1) (fun v H7 s7 d7 => ?_)
    have e7 := s7 _ _ (upd_same : (upd H5 l5 (.lst v5)) l5 = some (.lst v5))
    refine ⟨l5, v5, v, rfl, rfl, e7, by rw [c5, sizeLine_eq]; decide, ?_⟩
    have s58 : Same H5 (upd H7 l5 (.lst (v5 ++ [v]))) := fun b o e => by
      have ne : b ≠ l5 := fun z => by rw [z, n5] at e; cases e
      rw [upd_ne ne]
      exact s7 _ _ (by rw [upd_ne ne]; exact e)
    have gv8 : ∀ y ∈ v5 ++ [v], GV K (wo p (upd H7 l5 (.lst (v5 ++ [v])))) y := fun y hy => by
      rcases List.mem_append.mp hy with z | z
      · exact (gv5 y z).same (wo_mono s58)
      · rw [List.mem_singleton.mp z]
        have tk : TK (wo p H7) (wo p (upd H7 l5 (.lst (v5 ++ [v])))) := fun b o e n => wo_at (by
          rw [upd_ne (fun z => by rw [z] at e; have e' := wo_same _ _ e; rw [e7] at e'; cases e'; exact n _ rfl)]
          exact wo_same _ _ e) (fun z => by rw [z, wo_D] at e; cases e)
        exact GV.of (dp_tk tk d7 (by decide +kernel)) (by decide +kernel)
    have e8 : (upd H7 l5 (.lst (v5 ++ [v]))) l5 = some (.lst (v5 ++ [v])) := upd_same
    have c8 : (v5 ++ [v]).length = 19 := by rw [List.length_append, c5]; rfl
    have s18 := s15.trans s58
    generalize upd H7 l5 (.lst (v5 ++ [v])) = H8 at *
    generalize v5 ++ [v] = v8 at *
    clear gv5 e7 s7 d7 s58 s15 n5
    refine ⟨_, rfl, _, rfl, by show 1 ≤ sizeLine; decide, fun l6 n6 => ?_⟩
    refine ⟨l6, 8, _, rfl, rfl, upd_same, by decide, by decide, by show 1 * 8 ≤ sizeLine; decide, fun l7 n7 => ⟨_, rfl, ?_⟩⟩
    have s9 := (Same.new (o := .lst [x]) n6).trans (Same.new (o := .lst (List.replicate (8 : Int).toNat [x]).flatten) n7)
    refine ⟨l7, l5, _, _, rfl, rfl, upd_same, s9 _ _ e8, by rw [c8, sizeLine_eq]; show 8 + 19 ≤ 16777216; decide, fun l8 n8 => ?_⟩
    have s10 := s9.trans (Same.new (o := .lst ((List.replicate (8 : Int).toNat [x]).flatten ++ v8)) n8)
    have e10 : (upd (upd (upd H8 l6 (.lst [x])) l7 (.lst (List.replicate (8 : Int).toNat [x]).flatten)) l8 (.lst ((List.replicate (8 : Int).toNat [x]).flatten ++ v8))) l8 = some (.lst ((List.replicate (8 : Int).toNat [x]).flatten ++ v8)) := upd_same
    have die8 : Die H8 p := die_same g1.die s18
    have die10 := die_same die8 s10
    have ne8 : l8 ≠ p := die_free (die_same die8 s9) n8
    have s1A := s18.trans s10
    have c10 : ((List.replicate (8 : Int).toNat [x]).flatten ++ v8).length = 27 := by rw [List.length_append, c8]; rfl
    have gvA : ∀ y ∈ (List.replicate (8 : Int).toNat [x]).flatten ++ v8, GV K (wo p (upd (upd (upd H8 l6 (.lst [x])) l7 (.lst (List.replicate (8 : Int).toNat [x]).flatten)) l8 (.lst ((List.replicate (8 : Int).toNat [x]).flatten ++ v8)))) y := fun y hy => by
      rcases List.mem_append.mp hy with z | z
      · have ey : y = x := by simpa using z
        rw [ey]
        exact ⟨rowD r, .inl (dp_same (wo_mono s1A) (dp_tk (TK.wo (die_lst g1.die).choose_spec) dx (noL_row r))), row_mild ok.s, (by
          refine ⟨by rw [List.length_map]; have := ok.most; omega, fun d hd y e => ?_⟩
          obtain ⟨it, _, rfl⟩ := List.mem_map.mp hd
          cases e), fun _ _ => row_shaped ok.all⟩
      · exact (gv8 y z).same (wo_mono s10)
    generalize upd (upd (upd H8 l6 (.lst [x])) l7 (.lst (List.replicate (8 : Int).toNat [x]).flatten)) l8 (.lst ((List.replicate (8 : Int).toNat [x]).flatten ++ v8)) = HA at *
    generalize (List.replicate (8 : Int).toNat [x]).flatten ++ v8 = vA at *
    refine ⟨p, l8, vA, rfl, die10, .inl e10, ne8, by omega, by omega, fun v' H' hv g => ?_⟩
    exact k v' H' (g1.trans (got_same s1A g)) ((gvA v' hv).same (fun b o e => wo_at (g.keep b o (wo_same _ _ e) (fun z => by rw [z, wo_D] at e; cases e)) (fun z => by rw [z, wo_D] at e; cases e)))
end
end K11
namespace K11
open PySem PySem.Spec PyProof.Rows L2 GL SkE PySem.GLE LamX
theorem passX0 {P : Program} {w : World} {X : Cx} : Passes (L2.CX P w) X E0 := fun _ _ _ _ _ _ _ ⟨_, _, _, _, _, _, _, _, _, _, _, _, z⟩ => z.elim
/-- _law_met(lambda: body) -/
theorem pe_met {X : Cx} {cT : List (Addr × Str)} {c P : Addr} {cs : Cs} {k : Nat} {params : Arguments} {body : Expr} {scope : Scope} {t : XK → TE} {p lpos pos : Pos} (D : Df X.K X.mg "_law_met" s__law_met) (MT : MetT X.K X.mg cs) (dig : PySem.W.nsIn X.K cStatics "sys.int_max_str_digits" = some none)
    (glX : Gl X "_law_met") (TB : TabB X.base X.mg c P) (codeX : X.env.code = .ref c) (inT : (P, X.env.qual ++ "<lambda>") ∈ cT) (oneT : ∀ p ∈ cT, p.1 = P → p.2 = X.env.qual ++ "<lambda>") (gd : Gd X.A) (hr : Room (k + 2) X.A) (L : LamS X.env.scope scope) (noDef : defaultsOf params X.env = ([], []))
    (bindN : ∀ (q : Str) (cl : List (Str × Addr)) (pm cv ctv : Value), bindArgs (PySem.W.kla_fn "<lambda>" q params body scope cl pm cv ctv) ⟨[], []⟩ = pure [])
    (inBody : ∀ (A : Around) (outer : List Env) (s : Shared) (H : Hp) (E : XK) (f c' : Addr), Gd (A.deeper (lamEnv X scope s.heap.objs.size f c')) → Room k (A.deeper (lamEnv X scope s.heap.objs.size f c')) → PE (lamCx X A outer s H E scope f c') body (t E)) :
    PE X (.Call (.Name "_law_met" p) [.Lambda params body scope lpos] [] pos) (tLam cT (TMet X.K cs) t) := by
  obtain ⟨g, fd, F, m⟩ := D.ex
  obtain ⟨oc, od, kV, doc, pm, an, cdv, ct, osl, rfl, lk, hcd⟩ := F.ex
  exact pe_lam glX m F.kp lk hcd (F.binds (ps := ["_law_call"]) (fun kV doc pm an cdv ct us hl => match us, hl with | [_], _ => rfl)) sc__law_met rfl (.inl rfl) (met_gives MT dig gd hr) TB codeX inT oneT hr L noDef bindN gd inBody
theorem nx_go {D : Ends} {σ : L2.St} {H : Hp} (h : D.nx σ H) : tNext D σ H := h
theorem seq_go {t u : TS} {D : Ends} {σ : L2.St} {H : Hp} (h : t { D with nx := u D } σ H) : tSeq t u D σ H := h
theorem asg_go {t : TE} {g : TG} {D : Ends} {σ : L2.St} {H : Hp} (h : t σ H fun v H1 => g v σ H1 D.nx) : tAsg t g D σ H := h
theorem name_go {i : Nat} {v : V} {σ : L2.St} {H : Hp} {Q : L2.St → Hp → Prop} (h : Q (σ.set i (some v)) H) : gName i v σ H Q := h
/-- all but tables stay -/
def NT (M M' : Hp) : Prop := ∀ b o, M b = some o → (∀ ps, o ≠ .tbl ps) → M' b = some o
section
variable {K : PySem.W.Frag} {M M' : Hp} {p : Addr} {H H' : Hp}
theorem sqL_nt {a : Addr} {xs : List V} (h : SqL K M a xs) (s : NT M M') : SqL K M' a xs := by
  rcases h with (z | ⟨o, z⟩) | z
  · exact .inl (.inl (s _ _ z (fun _ z => by cases z)))
  · exact .inl (.inr ⟨o, s _ _ z (fun _ z => by cases z)⟩)
  · exact .inr z
theorem sqT_nt {a : Addr} {xs : List V} (h : SqT K M a xs) (s : NT M M') : SqT K M' a xs := by
  rcases h with (z | ⟨o, z⟩) | z
  · exact .inl (.inl (s _ _ z (fun _ z => by cases z)))
  · exact .inl (.inr ⟨o, s _ _ z (fun _ z => by cases z)⟩)
  · exact .inr z
mutual
theorem dp_nt (s : NT M M') : ∀ {v : V} {d : PyData}, Dp K M v d → Dp K M' v d
  | _, _, .non => .non
  | _, _, .bl b => .bl b
  | _, _, .int i => .int i
  | _, _, .str x => .str x
  | _, _, .lst h a => .lst (sqL_nt h s) (dps_nt s a)
  | _, _, .tup h a => .tup (sqT_nt h s) (dps_nt s a)
theorem dps_nt (s : NT M M') : ∀ {vs : List V} {ds : List PyData}, DpAll K M vs ds → DpAll K M' vs ds
  | _, _, .nil => .nil
  | _, _, .cons h a => .cons (dp_nt s h) (dps_nt s a)
end
theorem VD.nt {x : V} {d : PyData} (h : VD K M x d) (s : NT M M') : VD K M' x d := h.imp (dp_nt s) (fun ⟨e, q, a, b⟩ => ⟨e, q, a, s _ _ b (fun _ z => by cases z)⟩)
theorem GV.nt {x : V} (h : GV K M x) (s : NT M M') : GV K M' x := let ⟨d, a, b⟩ := h; ⟨d, a.nt s, b⟩
theorem wo_mask : NT (wo p H) (mask p H) := fun b o e n => mask_at (wo_same _ _ e) (fun z => by rw [z, wo_D] at e; cases e) n
theorem mask_mono (s : Same H H') : Same (mask p H) (mask p H') := fun b o e => let ⟨a, n, t⟩ := mask_of e; mask_at (s _ _ a) n t
theorem mask_got (g : Got p H H') : Same (mask p H) (mask p H') := fun b o e => let ⟨a, n, t⟩ := mask_of e; mask_at (g.keep _ _ a n) n t
theorem mask_ext (g : ExtN H H') : Same (mask p H) (mask p H') := fun b o e => let ⟨a, n, t⟩ := mask_of e; mask_at (g _ _ a t) n t
theorem die_ext (d : Die H p) (g : ExtN H H') : Die H' p := let ⟨l, b, c, h0, e⟩ := d; ⟨l, b, c, h0, g _ _ e (fun _ z => by cases z)⟩
theorem die_no (d : Die H p) : H p ≠ none := by obtain ⟨_, _, _, _, e⟩ := d; rw [e]; simp
theorem tabs_got {cT : List (Addr × Str)} (t : Tabs cT H) (d : Die H p) (g : Got p H H') : Tabs cT H' := by
  obtain ⟨xs, e0⟩ := die_lst d
  exact tabs_keep t (fun b o e n => g.keep b o e (fun z => by rw [z, e0] at e; cases e; exact n _ rfl))
/-- what was made outside of the dice -/
theorem mask_new {a : Addr} {o : HO} (d : Die H p) (n : H a = none) (nt : ∀ ps, o ≠ .tbl ps) : mask p (upd H a o) a = some o := mask_at upd_same (die_free d n) nt
end
section
variable {K : PySem.W.Frag} {H H' : Hp} {x : V} {C : Addr}
theorem noGrid_kind (i : GIs K C) {kd : Kd} (h : Of K H x kd) : NoGrid K C H x := ⟨_, h, i.kit kd⟩
end
/-- a met call, by the word that it tells -/
theorem met_s {K : PySem.W.Frag} {cs : Cs} {cT : List (Addr × Str)} {t : XK → TE} {σ : L2.St} {H : Hp} {Q : VK} {w : Str} {p : Addr} (die : Die H p) (tabs : Tabs cT H)
    (run : ∀ H1, Same (mask p H) H1 → ∀ (E : XK) (Q1 : VK), (w = Str.ofString "" → ∀ v H', Same H1 H' → Q1 v H') → (∀ cls d H', Same H1 H' → MetW K cs H' cls d w → E cls d H') → t E σ H1 Q1)
    (next : ∀ H', Same (mask p H) (mask p H') → Die H' p → Tabs cT H' → Q (.str w) H') : tLam cT (TMet K cs) t σ H Q :=
  ⟨tabs, fun H1 ex tb => run H1 (fun b o e => let ⟨a, n, z⟩ := mask_of e; ex _ _ a z) _ _
    (fun e v H' s => by have z := next H' (mask_ext (ex.trans (ExtN.of s))) (die_ext die (ex.trans (ExtN.of s))) (tb.ext s); rw [e] at z; exact z)
    (fun cls d H' s m => ⟨w, m, next H' (mask_ext (ex.trans (ExtN.of s))) (die_ext die (ex.trans (ExtN.of s))) (tb.ext s)⟩)⟩
/-! ### lists of values of which G holds, beside the dice p -/
def MonoG (G : Hp → V → Prop) : Prop := ∀ M M' x, Same M M' → G M x → G M' x
def T1 (p : Addr) (H0 : Hp) (σ : L2.St) (t : TE) (G : Hp → V → Prop) : Prop := ∀ H Q, Same H0 H → (∀ v H', Same H H' → G (mask p H') v → Q v H') → t σ H Q
def TN (p : Addr) (H0 : Hp) (σ : L2.St) (ts : TA) (n : Nat) (G : Hp → V → Prop) : Prop := ∀ H Q, Same H0 H → (∀ vs H', Same H H' → (∀ v ∈ vs, G (mask p H') v) → vs.length = n → Q vs H') → ts σ H Q
def TL (p : Addr) (H0 : Hp) (σ : L2.St) (t : TE) (n : Nat) (G : Hp → V → Prop) : Prop := ∀ H Q, Same H0 H → (∀ l vs H', Same H H' → H l = none → H' l = some (.lst vs) → (∀ v ∈ vs, G (mask p H') v) → vs.length = n → Q (.ref l) H') → t σ H Q
section
variable {K : PySem.W.Frag} {p : Addr} {H0 : Hp} {σ : L2.St} {t t2 : TE} {ts : TA} {n m : Nat} {G : Hp → V → Prop} {d : PyData}
theorem t1_str {y : Str} (g : ∀ H, G H (.str y)) : T1 p H0 σ (tC (.str y)) G := fun H Q _ k => k _ H same_rfl (g _)
theorem t1_int {i : Int} (g : ∀ H, G H (.int i)) : T1 p H0 σ (tC (.int i)) G := fun H Q _ k => k _ H same_rfl (g _)
theorem t1_bl {b : Bool} (g : ∀ H, G H (.bl b)) : T1 p H0 σ (tC (.bl b)) G := fun H Q _ k => k _ H same_rfl (g _)
theorem t1_non (g : ∀ H, G H .non) : T1 p H0 σ (tC .non) G := fun H Q _ k => k _ H same_rfl (g _)
theorem t1_var (mo : MonoG G) {j : Nat} {x : V} (e : σ[j]? = some (some x)) (g : G (mask p H0) x) : T1 p H0 σ (tVar j) G := fun H Q s k => ⟨x, e, k _ H same_rfl (mo _ _ _ (mask_mono s) g)⟩
theorem t1_data (hp : H0 p ≠ none) (a : MkV K p σ t d) (g : ∀ H v, Dp K H v d → G H v) : T1 p H0 σ t G := fun H Q s k => a H Q (hpk s hp) fun v H' s' dv => k v H' s' (g _ _ (dp_nt wo_mask dv))
theorem t1_dict (hp : H0 p ≠ none) (g : ∀ H q, H q = some (.dK []) → G H (.ref q)) : T1 p H0 σ tDNewK G := fun H Q s k q nq => k _ _ (Same.new nq) (g _ _ (mask_at upd_same (np_ne (hpk s hp) nq) (fun _ z => by cases z)))
theorem tn_nil : TN p H0 σ tNil 0 G := fun H Q _ k => k [] H same_rfl (fun v h => by cases h) rfl
theorem tn_cons (mo : MonoG G) (a : T1 p H0 σ t G) (b : TN p H0 σ ts n G) : TN p H0 σ (tCons t ts) (n + 1) G := fun H Q s k => a H _ s fun v H1 s1 g1 => b H1 _ (s.trans s1) fun vs H2 s2 g l => k _ H2 (s1.trans s2) (fun y hy => by
  rcases List.mem_cons.mp hy with rfl | z
  · exact mo _ _ _ (mask_mono s2) g1
  · exact g y z) (by rw [List.length_cons, l])
theorem none_of {H H' : Hp} {a : Addr} (s : Same H H') (n : H' a = none) : H a = none := by
  cases e : H a with
  | none => rfl
  | some o => rw [s _ _ e] at n; cases n
theorem tl_lst (mo : MonoG G) (b : TN p H0 σ ts n G) (few : n ≤ 1000 := by decide) : TL p H0 σ (tLst ts) n G := fun H Q s k => b H _ s fun vs H1 s1 g l => ⟨by rw [l, sizeLine_eq]; omega, fun q nq => k q vs _ (s1.trans (Same.new nq)) (none_of s1 nq) upd_same (fun v hv => mo _ _ _ (mask_mono (Same.new nq)) (g v hv)) l⟩
theorem tl_rep (mo : MonoG G) (a : TL p H0 σ t n G) (m : Nat) (hm : m ≤ 1000 := by decide) (hn : n ≤ 1000 := by decide) : TL p H0 σ (tOp rRep t (tC (.int (m : Int)))) (m * n) G := fun H Q s k => a H _ s fun l vs H1 s1 n1 e1 g1 c1 => by
  refine ⟨l, (m : Int), vs, rfl, rfl, e1, by omega, by omega, ?_, fun q nq => k q _ _ (s1.trans (Same.new nq)) (none_of s1 nq) upd_same (fun v hv => ?_) ?_⟩
  · rw [c1, Int.toNat_natCast, sizeLine_eq]
    exact Nat.le_trans (Nat.mul_le_mul hn hm) (by decide)
  · rw [List.mem_flatten] at hv
    obtain ⟨l', hl, hv⟩ := hv
    rw [(List.mem_replicate.mp hl).2] at hv
    exact mo _ _ _ (mask_mono (Same.new nq)) (g1 v hv)
  · rw [List.length_flatten, List.map_replicate, List.sum_replicate_nat, Int.toNat_natCast, c1]
theorem tl_cat (mo : MonoG G) (a : TL p H0 σ t n G) (b : TL p H0 σ t2 m G) (few : n + m ≤ 1000 := by decide) : TL p H0 σ (tOp rCat t t2) (n + m) G := fun H Q s k => a H _ s fun l vs H1 s1 n1 e1 g1 c1 => b H1 _ (s.trans s1) fun l2 vs2 H2 s2 n2 e2 g2 c2 => by
  refine ⟨l, l2, vs, vs2, rfl, rfl, s2 _ _ e1, e2, by rw [c1, c2, sizeLine_eq]; omega, fun q nq => k q _ _ ((s1.trans s2).trans (Same.new nq)) (none_of (s1.trans s2) nq) upd_same (fun v hv => ?_) (by rw [List.length_append, c1, c2])⟩
  rcases List.mem_append.mp hv with z | z
  · exact mo _ _ _ (mask_mono (s2.trans (Same.new nq))) (g1 v z)
  · exact mo _ _ _ (mask_mono (Same.new nq)) (g2 v z)
/-- the list is picked of -/
theorem tl_pick {Q : VK} (mo : MonoG G) (die : Die H0 p) (a : TL p H0 σ t n G) (c : 0 < n ∧ n ≤ 1000) (k : ∀ v H', Got p H0 H' → Die H' p → G (mask p H') v → Q v H') : t σ H0 fun l H1 => spPick (.ref p :: (l :: [])) H1 Q E0 := a H0 _ same_rfl fun l vs H1 s1 n1 e1 g1 c1 =>
  ⟨p, l, vs, rfl, die_same die s1, .inl e1, die_free die n1, by omega, by omega, fun v H' hv g => k v H' (got_same s1 g) g.die (mo _ _ _ (mask_got g) (g1 v hv))⟩
end
/-! ### words -/
def wA (b : Bool) : Str := if b = true then Str.ofString "" else Str.ofString "grid"
def wR (b : Bool) : Str := if b = true then Str.ofString "" else Str.ofString "rule"
def cntB : PyData → Bool
  | .int i => decide (0 ≤ i)
  | _ => false
def wN (b : Bool) (d : PyData) : Str := if b = true then Str.ofString "" else Str.ofString "number " ++ d.shown
theorem wA_ok (b : Bool) : PyData.strOk (wA b) = true := by cases b <;> decide +kernel
theorem wR_ok (b : Bool) : PyData.strOk (wR b) = true := by cases b <;> decide +kernel
theorem first_grid (ws : List Str) : firstOf (wA false :: ws) = Str.ofString "grid" := if_neg (by decide +kernel)
theorem first_on (ws : List Str) : firstOf (wA true :: ws) = firstOf ws := if_pos rfl
theorem first_one (w : Str) : firstOf [w] = w := by
  show (if w = Str.ofString "" then Str.ofString "" else w) = w
  by_cases h : w = Str.ofString ""
  · rw [if_pos h, h]
  · rw [if_neg h]
theorem first_two (w : Str) : firstOf [wA true, w] = w := (first_on _).trans (first_one w)
theorem rule_ne : Str.ofString "rule" ≠ Str.ofString "" := by decide +kernel
theorem num_ne (d : PyData) : Str.ofString "number " ++ d.shown ≠ Str.ofString "" := fun e => by
  have z := congrArg Str.length e
  rw [PySem.Str.length_append] at z
  have q : (Str.ofString "number ").length = 7 := by decide
  have q2 : (Str.ofString "").length = 0 := by decide
  omega
theorem if_wR {b : Bool} {Q : VK} {σ : L2.St} {H : Hp} (h : Q (.str (wR b)) H) : if b = true then tC (V.str (Str.ofString "")) σ H Q else tC (V.str (Str.ofString "rule")) σ H Q := by
  cases b
  · exact iteF h
  · exact iteT h
/-- a number, or what may stand for one, as it is shown -/
structure NumD (d : PyData) : Prop where
  sh : d.showable = true
  nd : d.hasDict = false
  dep : d.depth ≤ 3
  len : d.shown.length ≤ 31000
  ok : PyData.strOk d.shown = true
  int : ∀ i, d = .int i → isIntV (.int i) = true
def NumV (K : PySem.W.Frag) (H : Hp) (x : V) : Prop := ∃ d, Dp K H x d ∧ NumD d
theorem NumV.mono {K : PySem.W.Frag} : MonoG (NumV K) := fun M M' x s ⟨d, a, b⟩ => ⟨d, dp_same s a, b⟩
theorem NumD.shw {K : PySem.W.Frag} {H : Hp} {x : V} {d : PyData} (n : NumD d) (h : Dp K H x d) : Sh K H x d := ⟨.inl ⟨h, n.sh, n.nd⟩, n.dep, n.len⟩
theorem numD_int {n : Int} (h : n.natAbs < 10 ^ 100) : NumD (.int n) := by
  have z : n.natAbs.log2 < 1920 := Nat.lt_trans (PySem.Flt.log2_lt_of (k := 400) (by decide) (Nat.lt_of_lt_of_le h (by decide +kernel))) (by decide)
  refine ⟨decide_eq_true z, rfl, by simp [PyData.depth], ?_, ofS_ok _, fun i e => ?_⟩
  · have e := int_text_length_le10 (a := n) (k := 100) (by decide) h
    show (Str.ofString (toString n)).length ≤ 31000
    rw [PySem.ofString_length]
    exact Nat.le_trans e (by decide)
  · cases e
    show (decide (-B < n) && decide (n < B)) = true
    have hB : ((10 ^ 100 : Nat) : Int) < B := by rw [B_eq]; decide +kernel
    have h1 : (n.natAbs : Int) < ((10 ^ 100 : Nat) : Int) := by exact_mod_cast h
    generalize ((10 ^ 100 : Nat) : Int) = X at *
    rw [decide_eq_true (by omega), decide_eq_true (by omega)]
    rfl
theorem numD_flat {d : PyData} (h : (d.showable && !d.hasDict && decide (d.depth ≤ 3) && decide (d.shown.length ≤ 31000) && PyData.strOk d.shown) = true) (ni : ∀ i, d ≠ .int i) : NumD d := by
  simp only [Bool.and_eq_true, decide_eq_true_eq, Bool.not_eq_true'] at h
  exact ⟨h.1.1.1.1, h.1.1.1.2, h.1.1.2, h.1.2, h.2, fun i e => absurd e (ni i)⟩
theorem wN_ok {b : Bool} {d : PyData} (n : NumD d) : PyData.strOk (wN b d) = true := by
  unfold wN
  split
  · decide +kernel
  · exact app_ok (by decide +kernel) n.ok
theorem cnt_of {K : PySem.W.Frag} {H : Hp} {x : V} {d : PyData} (h : Dp K H x d) (n : NumD d) : isCountV x = cntB d := by
  cases h with
  | int i =>
    show (isIntV (.int i) && decide (0 ≤ i)) = decide (0 ≤ i)
    rw [n.int i rfl, Bool.true_and]
  | _ => rfl
theorem tIf_go {t : TT} {ta tb : TE} {σ : L2.St} {H : Hp} {Q : VK} {w : V} (run : ∀ Q1 : VK, Q1 w H → tIf t ta tb σ H Q1) (next : Q w H) : tIf t ta tb σ H Q := run Q next
/-- "" or the word of a number that is none -/
theorem num_word {K : PySem.W.Frag} {σ : L2.St} {H : Hp} {Q : VK} {j : Nat} {x : V} {d : PyData} (e : σ[j]? = some (some x)) (h : Dp K H x d) (n : NumD d) (q : Q (.str (wN (cntB d) d)) H) :
    tIf (tAnd (tB (tCB (rIsi K) (tCons (tVar j) (tCons (tC (V.ty "int")) tNil)))) (tAnd (tNot (tB (tCB (rIsi K) (tCons (tVar j) (tCons (tC (V.ty "bool")) tNil))))) (tTest (tOp (rI0 fun i j => V.bl (decide (j ≤ i))) (tVar j) (tC (V.int 0))))))
      (tC (V.str (Str.ofString ""))) (tOp (fun x y H Q => ∃ i j, x = V.str i ∧ y = V.str j ∧ i.length + j.length ≤ sizeLine ∧ Q (V.str (i ++ j)) H) (tC (V.str (Str.ofString "number "))) (tCB (rReprQ K) (tCons (tVar j) tNil))) σ H Q := by
  have no : cntB d = false → tOp (fun x y H Q => ∃ i j, x = V.str i ∧ y = V.str j ∧ i.length + j.length ≤ sizeLine ∧ Q (V.str (i ++ j)) H) (tC (V.str (Str.ofString "number "))) (tCB (rReprQ K) (tCons (tVar j) tNil)) σ H Q := fun b => by
    rw [b] at q
    have l7 : (Str.ofString "number ").length = 7 := by decide
    have ln := n.len
    exact ⟨_, e, _, _, rfl, .inl ⟨h, n.sh, n.nd⟩, Nat.le_trans n.dep (by decide), Nat.le_trans ln (by rw [sizeLine_eq]; decide), _, _, rfl, rfl, by rw [l7, sizeLine_eq]; omega, q⟩
  refine ⟨_, e, _, _, _, _, _, rfl, .ty _, dOf h, GL.kit_int _, _, rfl, ?_⟩
  cases h with
  | int i =>
    refine iteT ⟨_, e, _, _, _, _, _, rfl, .ty _, dOf (.int i), GL.kit_bool _, _, rfl, ?_⟩
    refine iteT ⟨_, e, _, _, rfl, rfl, _, rfl, ?_⟩
    by_cases c : 0 ≤ i
    · rw [show cntB (.int i) = true from decide_eq_true c] at q
      rw [decide_eq_true c]
      exact iteT q
    · rw [decide_eq_false c]
      exact iteF (no (decide_eq_false c))
  | bl b => exact iteT ⟨_, e, _, _, _, _, _, rfl, .ty _, dOf (.bl b), GL.kit_bool _, _, rfl, iteF (iteF (no rfl))⟩
  | non => exact iteF (iteF (no rfl))
  | str y => exact iteF (iteF (no rfl))
  | lst h a => exact iteF (iteF (no rfl))
  | tup h a => exact iteF (iteF (no rfl))
/-! ### a value that may be a row -/
def tupO : PyData → Option (List PyData)
  | .tuple ds => some ds
  | _ => none
theorem rowB_of (t : Bool) (n : Int) (d : PyData) : rowB t n (tupO d) = isRowD t n d := by cases d <;> rfl
theorem rowL_of {K : PySem.W.Frag} {H : Hp} {x : V} {d : PyData} (h : VD K H x d) (m : MildD d) : RowL K H x (tupO d) := by
  cases d with
  | tuple ds =>
    obtain ⟨a, xs, rfl, hs, l⟩ := dTup h.tup
    obtain ⟨m1, m2⟩ := m ds rfl
    exact ⟨a, xs, rfl, hs, dLen l, m1, fun i y hy => let ⟨d, e, z⟩ := dAt l hy; ⟨d, e, .inl z, m2 d (List.mem_of_getElem? e)⟩⟩
  | _ => exact ⟨_, h.of, rfl⟩
theorem set_self {σ : L2.St} {j : Nat} {x : Option V} (e : σ[j]? = some x) : σ.set j x = σ := by
  obtain ⟨h, e⟩ := List.getElem?_eq_some_iff.mp e
  rw [← e]
  exact List.set_getElem_self h
end K11
namespace K11
open PySem PySem.Spec PyProof.Rows L2 GL SkE PySem.GLE LamX
abbrev s__law_rows_right : Stmt := topS 50
abbrev N__law_rows_right : List Str := ["_law_dice_here", "_law_grid", "_law_around", "_law_ahead", "_law_is_fine", "_law_word", "_law_told", "_law_item", "_law_many", "_law_one", "_law_value"]
theorem sc__law_rows_right : FnScope N__law_rows_right ["_law_dice_here", "_law_grid", "_law_around"] (defScope s__law_rows_right) := ⟨rfl, rfl, rfl, by decide +kernel, rfl, by decide +kernel, by decide +kernel⟩
def spPartR (K : PySem.W.Frag) (C : Addr) (U : Bool → Addr) (cT : List (Addr × Str)) : Sp := fun vs H Q _ => ∃ p g t, vs = [.ref p, .ref g, .int (num t : Nat)] ∧ Die H p ∧ GridAt C U H g t ∧ Tabs cT H ∧ ∀ H', Same (mask p H) (mask p H') → Die H' p → Tabs cT H' → Q (.bl true) H'
section
variable {P : Program} {w : World} {K : PySem.W.Frag} {mg : Str → Option Value} {base : Heap}
variable {aG dU C CR : Addr} {U : Bool → Addr} {us : Bool → List Addr} {cs : Cs}
variable {cT : List (Addr × Str)} {cA PA : Addr}
theorem if_grid {p : Addr} {H : Hp} {σ : L2.St} {D : Ends} {j j3 : Nat} {one : V} {bo t : Bool} (i : GIs K C) (c : GCls K C) (h : (bo = true ∧ ∃ g, one = .ref g ∧ GridAt C U (mask p H) g t) ∨ (bo = false ∧ NoGrid K C (mask p H) one)) (e : σ[j]? = some (some one)) (e3 : σ[j3]? = some (some (.str (Str.ofString ""))))
    (k : D.nx (σ.set j3 (some (.str (wA bo)))) H) : tIfS (tNot (tB (tCB (rIsi K) (tCons (tVar j) (tCons (tC (V.ref C)) tNil))))) (tAsg (tC (V.str (Str.ofString "grid"))) (gName j3)) tNext D σ H := by
  rcases h with ⟨rfl, g, rfl, hg⟩ | ⟨rfl, ng⟩
  · obtain ⟨dg, eg⟩ := hg.same mask_same
    rw [show σ.set j3 (some (.str (wA true))) = σ from set_self e3] at k
    exact ⟨_, e, _, _, _, _, _, rfl, .own _, i.ty c.cls eg, kit_self, _, rfl, (iteF k : if (!true) = true then _ else _)⟩
  · obtain ⟨Ty, ty, kt⟩ := ng.same mask_same
    exact ⟨_, e, _, _, _, _, _, rfl, .own _, ty, kt, _, rfl, if_nf k⟩
theorem if_told {c : TT} {u r : TS} {D : Ends} {σ : L2.St} {H : Hp} {b : Bool} {j : Nat} (hc : ∀ Q : Bool → Hp → Prop, Q b H → c σ H Q) (e : σ[j]? = some none) (k : ∀ v H', Same H H' → r D (σ.set j v) H') (yes : b = true → (∀ v H', Same H H' → r D (σ.set j v) H') → u { D with nx := r D } σ H) : tSeq (tIfS c u tNext) r D σ H := by
  refine hc _ ?_
  cases b with
  | true => exact iteT (yes rfl k)
  | false =>
    have z := k none H same_rfl
    rw [set_self e] at z
    exact iteF z
theorem if_skip {c : TT} {u r : TS} {D : Ends} {σ : L2.St} {H : Hp} (no : ∀ Q : Bool → Hp → Prop, (∀ H', Same H H' → Q false H') → c σ H Q) (k : ∀ H', Same H H' → r D σ H') : tSeq (tIfS c u tNext) r D σ H := no _ (fun H' s => iteF (k H' s))
def itemO : PyData → PyData
  | .tuple (e :: r) => e
  | d => d
theorem item_go {M H : Hp} {σ : L2.St} {Q : VK} {j : Nat} {x : V} {d : PyData} (e : σ[j]? = some (some x)) (sM : Same M H) (vd : VD K M x d) (md : MildD d) (mi : Mild d) (shp : ∀ ds, d = .tuple ds → SeqAt.shaped d = true) (k : ∀ y H', Same H H' → VD K M y (itemO d) → Mild (itemO d) → Q y H') :
    tIf (tAnd (tB (tCB (rIsi K) (tCons (tVar j) (tCons (tC (V.ty "tuple")) tNil)))) (tTest (tOp (rNeD K) (tVar j) (tTup tNil)))) (tOp (rIxT K) (tVar j) (tC (V.int 0))) (tVar j) σ H Q := by
  refine ⟨_, e, _, _, _, _, _, rfl, .ty _, (vd.same sM).of, GL.kit_tup _, _, rfl, ?_⟩
  cases d with
  | tuple ds =>
    obtain ⟨a, xs, rfl, hs, l⟩ := dTup vd.tup
    refine iteT ⟨_, e, by show 0 ≤ sizeLine; decide, fun q nq => ⟨_, .tuple [], dp_same (sM.trans (Same.new nq)) vd.tup, .tup (SqT.of upd_same) .nil, shp ds rfl, by decide, _, rfl, ?_⟩⟩
    cases ds with
    | nil => exact iteF ⟨_, e, k _ _ (Same.new nq) vd mi⟩
    | cons d0 ds =>
      cases l with
      | cons l1 l2 => exact iteT ⟨_, e, a, _, _, _, rfl, rfl, sqT_same (sqT_same hs sM) (Same.new nq), atI_nat (j := 0) rfl, k _ _ (Same.new nq) (.inl l1) ((md _ rfl).2 _ List.mem_cons_self)⟩
  | _ => exact iteF (iteF ⟨_, e, k _ _ same_rfl vd mi⟩)
theorem h_rows (T : TxE K mg aG dU C CR cs) (c : GCls K C) (i : GIs K C) (rc : RCls K CR) (MD : Df K mg "_law_met" s__law_met) (MT : MetT K mg cs) (dig : PySem.W.nsIn K cStatics "sys.int_max_str_digits" = some none)
    (TB : TabB base mg cA PA) (inT : (PA, (("_law_rows_right" : Str) ++ ".<locals>.") ++ "<lambda>") ∈ cT) (oneT : ∀ p ∈ cT, p.1 = PA → p.2 = (("_law_rows_right" : Str) ++ ".<locals>.") ++ "<lambda>")
    (h_law_pick : Has P w K mg base CX0 "_law_pick" 2 ["_law_dice_here", "_law_items"] spPick)
    (h_law_some_value : Has P w K mg base CX0 "_law_some_value" 4 ["_law_dice_here", "_law_around"] (spSomeValue K))
    (h_law_is_row : Has P w K mg base CX0 "_law_is_row" 1 ["_law_value", "_law_around", "_law_few"] (spIsRowL K))
    (h_law_first : Has P w K mg base CX0 "_law_first" 1 ["_law_words"] (spFirst K))
    (his_row : HasK P w K mg base (L2.CX P w) "is_row" 5 ["grid", "value", "least"] 2 ["least"] (spIsRowX K C U cs))
    (his_item : Has P w K mg base (L2.CX P w) "is_item" 4 ["grid", "value"] (spIsItemX K C U cs))
    (hwrite_row : Has P w K mg base (L2.CX P w) "write_row" 6 ["items"] (spWriteX K cs))
    (hRule : HasGX P w K mg base (L2.CX P w) "Rule" CR 6 ["self", "grid", "items"] (spRInitX K C U CR cs)) (D : Dl K mg "_law_rows_right" s__law_rows_right cA) :
    Has P w K mg base CX0 "_law_rows_right" 17 ["_law_dice_here", "_law_grid", "_law_around"] (spPartR K C U cT) := by
  refine D.hasL sc__law_rows_right (fun vs H Q E h => ?_) (fun kV doc pm an cdv ct us hl => match us, hl with | [_, _, _], _ => rfl) (fun f A outer s H vs Q E gd hr h => ?_)
  · obtain ⟨p, g, t, rfl, _⟩ := h
    rfl
  · obtain ⟨p, g, t, rfl, die, hg, tabs, k⟩ := h
    have hu := hr.units
    refine ⟨_, (pss_cons
 (ps_set (i := 9) sc__law_rows_right.nd rfl (Or.inr rfl) (pe_callH h_law_pick gd (hr.mono (by decide)) pass0 (pa_cons (pv 0) (pa_cons (pe_op op_cat (pe_op op_rep (pe_lst (pa_cons (pv 1) pa_nil)) pe_int) (pe_lst (pa_cons pe_non (pa_cons pe_str (pa_cons pe_int (pa_cons (pe_tup pa_nil) (pa_cons pe_dnewK (pa_cons (pe_lst (pa_cons (pv 1) pa_nil)) pa_nil)))))))) pa_nil))))
 (pss_cons
 (ps_asg (pe_tup (pa_cons (pe_callH h_law_some_value gd (hr.mono (by decide)) pass0 (pa_cons (pv 0) (pa_cons (pv 2) pa_nil))) (pa_cons pe_str pa_nil))) (pg_tup (by rfl) (pgs_cons (pg_name (i := 10) sc__law_rows_right.nd rfl (Or.inr rfl)) (pgs_cons (pg_name (i := 3) sc__law_rows_right.nd rfl (Or.inl rfl)) pgs_nil))))
 (pss_cons
 (ps_if (pt_not (pt_val (pe_callB call_isi (by exact rfl) T.zisinstance (by decide +kernel) (pa_cons (pv 9) (pa_cons (pe_globV T.gGrid) pa_nil))))) (pss_one
 (ps_set (i := 3) sc__law_rows_right.nd rfl (Or.inl rfl) pe_str)) pss_nil)
 (pss_cons
 (ps_set (i := 4) sc__law_rows_right.nd rfl (Or.inl rfl) (pe_callH h_law_is_row gd (hr.mono (by decide)) pass0 (pa_cons (pv 10) (pa_cons (pv 2) (pa_cons pe_int pa_nil)))))
 (pss_cons
 (ps_if (pt_cmpR op_ne (pe_met (k := 13) MD MT dig (by exact rfl) TB rfl inT oneT gd (hr.mono (by decide)) (show LamS (defScope s__law_rows_right) _ from lamS_by (by decide +kernel)) rfl (fun _ _ _ _ _ => rfl) (fun A outer s H E f c' gd hr => (pe_makeGX hRule gd (hr.mono (by decide)) (passes_call (takes_of rfl rfl rfl rfl) (fun _ _ _ _ e => e)) (pa_cons (pv 9) (pa_cons (pv 10) pa_nil))))) (pe_callH h_law_first gd (hr.mono (by decide)) pass0 (pa_cons (pe_lst (pa_cons (pv 3) (pa_cons (pe_ifExp (pt_val (pv 4)) pe_str pe_str) pa_nil))) pa_nil)) (nomark _)) (pss_one
 (ps_ret pe_bl)) pss_nil)
 (pss_cons
 (ps_set (i := 8) sc__law_rows_right.nd rfl (Or.inr rfl) (pe_callH h_law_pick gd (hr.mono (by decide)) pass0 (pa_cons (pv 0) (pa_cons (pe_lst (pa_cons pe_int (pa_cons pe_int (pa_cons pe_int (pa_cons pe_int (pa_cons pe_int (pa_cons (pe_un un_neg pe_int) (pa_cons pe_non (pa_cons pe_bl (pa_cons pe_str (pa_cons (pe_op op_pow pe_int pe_int) pa_nil))))))))))) pa_nil))))
 (pss_cons
 (ps_set (i := 5) sc__law_rows_right.nd rfl (Or.inl rfl) (pe_ifExp (PW.pt (pw_and (pt_val (pe_callB call_isi (by exact rfl) T.zisinstance (by decide +kernel) (pa_cons (pv 8) (pa_cons (pe_bltn (v := .ty "int") (by exact rfl) T.zint (by decide +kernel) rfl) pa_nil)))) (pw_and (pt_not (pt_val (pe_callB call_isi (by exact rfl) T.zisinstance (by decide +kernel) (pa_cons (pv 8) (pa_cons (pe_bltn (v := .ty "bool") (by exact rfl) T.zbool (by decide +kernel) rfl) pa_nil))))) (pw_and1 (pt_cmpR op_ge (pv 8) pe_int (nomark _)))))) pe_str (pe_op op_add_str pe_str (pe_callB (call_reprQ dig gd hu) (by exact rfl) T.zrepr (by decide +kernel) (pa_cons (pv 8) pa_nil)))))
 (pss_cons
 (ps_if (pt_cmpR op_ne (pe_met (k := 13) MD MT dig (by exact rfl) TB rfl inT oneT gd (hr.mono (by decide)) (show LamS (defScope s__law_rows_right) _ from lamS_by (by decide +kernel)) rfl (fun _ _ _ _ _ => rfl) (fun A outer s H E f c' gd hr => (pe_callKH his_row gd (hr.mono (by decide)) (passes_call (takes_of rfl rfl rfl rfl) (fun _ _ _ _ e => e)) (pa_cons (pv 9) (pa_cons (pv 10) pa_nil)) (pk_cons (pv 8) pk_nil)))) (pe_callH h_law_first gd (hr.mono (by decide)) pass0 (pa_cons (pe_lst (pa_cons (pv 3) (pa_cons (pv 5) pa_nil))) pa_nil)) (nomark _)) (pss_one
 (ps_ret pe_bl)) pss_nil)
 (pss_cons
 (ps_if (PW.pt (pw_and (pt_cmpR op_eq (pv 3) pe_str (nomark _)) (pw_and1 (pt_cmpR op_eq (pv 5) pe_str (nomark _))))) (pss_cons
 (ps_set (i := 6) sc__law_rows_right.nd rfl (Or.inl rfl) (pe_callKH his_row gd (hr.mono (by decide)) passX0 (pa_cons (pv 9) (pa_cons (pv 10) pa_nil)) (pk_cons (pv 8) pk_nil)))
 (pss_one
 (ps_if (pt_cmpR op_ne (pe_callB (call_reprQ dig gd hu) (by exact rfl) T.zrepr (by decide +kernel) (pa_cons (pv 6) pa_nil)) (pe_callB (call_repr gd hu) (by exact rfl) T.zrepr (by decide +kernel) (pa_cons (pe_callH h_law_is_row gd (hr.mono (by decide)) pass0 (pa_cons (pv 10) (pa_cons (pv 2) (pa_cons (pv 8) pa_nil)))) pa_nil)) (nomark _)) (pss_one
 (ps_ret pe_bl)) pss_nil))) pss_nil)
 (pss_cons
 (ps_set (i := 7) sc__law_rows_right.nd rfl (Or.inr rfl) (pe_ifExp (PW.pt (pw_and (pt_val (pe_callB call_isi (by exact rfl) T.zisinstance (by decide +kernel) (pa_cons (pv 10) (pa_cons (pe_bltn (v := .ty "tuple") (by exact rfl) T.ztuple (by decide +kernel) rfl) pa_nil)))) (pw_and1 (pt_cmpR (op_neD hu) (pv 10) (pe_tup pa_nil) (nomark _))))) (pe_ix ix_tup (pv 10) pe_int (fun _ _ => rfl)) (pv 10)))
 (pss_cons
 (ps_if (pt_cmpR op_ne (pe_met (k := 13) MD MT dig (by exact rfl) TB rfl inT oneT gd (hr.mono (by decide)) (show LamS (defScope s__law_rows_right) _ from lamS_by (by decide +kernel)) rfl (fun _ _ _ _ _ => rfl) (fun A outer s H E f c' gd hr => (pe_callH his_item gd (hr.mono (by decide)) (passes_call (takes_of rfl rfl rfl rfl) (fun _ _ _ _ e => e)) (pa_cons (pv 9) (pa_cons (pv 7) pa_nil))))) (pv 3) (nomark _)) (pss_one
 (ps_ret pe_bl)) pss_nil)
 (pss_cons
 (ps_if (PW.pt (pw_and (pt_cmpR op_eq (pv 3) pe_str (nomark _)) (pw_and1 (pt_cmpR op_ne (pe_callB (call_repr gd hu) (by exact rfl) T.zrepr (by decide +kernel) (pa_cons (pe_callH his_item gd (hr.mono (by decide)) passX0 (pa_cons (pv 9) (pa_cons (pv 7) pa_nil))) pa_nil)) (pe_callB (call_repr gd hu) (by exact rfl) T.zrepr (by decide +kernel) (pa_cons (pe_callH h_law_is_row gd (hr.mono (by decide)) pass0 (pa_cons (pe_tup (pa_cons (pv 7) pa_nil)) (pa_cons (pv 2) (pa_cons pe_int pa_nil)))) pa_nil)) (nomark _))))) (pss_one
 (ps_ret pe_bl)) pss_nil)
 (pss_one
 (ps_ret (pe_cmpR op_eq (pe_met (k := 13) MD MT dig (by exact rfl) TB rfl inT oneT gd (hr.mono (by decide)) (show LamS (defScope s__law_rows_right) _ from lamS_by (by decide +kernel)) rfl (fun _ _ _ _ _ => rfl) (fun A outer s H E f c' gd hr => (pe_callH hwrite_row gd (hr.mono (by decide)) (passes_call (takes_of rfl rfl rfl rfl) (fun _ _ _ _ e => e)) (pa_cons (pv 10) pa_nil)))) (pe_ifExp (pt_val (pe_callH h_law_is_row gd (hr.mono (by decide)) pass0 (pa_cons (pv 10) (pa_cons pe_int (pa_cons pe_int pa_nil))))) pe_str pe_str) (nomark _)))))))))))))))), ?_⟩
    dsimp only [cxOf, Cx.nox]
    have moG : MonoG (fun M x => (∃ g, x = .ref g ∧ GridAt C U M g t) ∨ NoGrid K C M x) := fun M M' x s h => h.imp (fun ⟨g, e, a⟩ => ⟨g, e, a.same s⟩) (fun a => a.same s)
    have knd : ∀ {M : Hp} {x : V} {kd : Kd}, Of K M x kd → (∃ g, x = .ref g ∧ GridAt C U M g t) ∨ NoGrid K C M x := fun h => .inr (noGrid_kind i h)
    have hp0 := die_no die
    refine ⟨_, rfl, ?_⟩
    refine tl_pick moG die (tl_cat moG (tl_rep moG (tl_lst moG (tn_cons moG (t1_var moG rfl (.inl ⟨g, rfl, gridAt_mask hg die⟩)) tn_nil)) 6)
      (tl_lst moG (tn_cons moG (t1_non fun _ => knd .non) (tn_cons moG (t1_str fun _ => knd .str) (tn_cons moG (t1_int fun _ => knd .int) (tn_cons moG (t1_data hp0 (mv_tup ma_nil) fun _ _ h => knd (dOf h)) (tn_cons moG (t1_dict hp0 fun _ _ h => knd (.dct h)) (tn_cons moG ?_ tn_nil)))))))) (by decide) fun one H1 got1 die1 g1 => ?_
    · exact fun H Q s k => ⟨_, rfl, by show 1 ≤ sizeLine; decide, fun q nq => k _ _ (Same.new nq) (knd (lst_of (SqL.of (mask_at upd_same (np_ne (hpk s hp0) nq) (fun _ z => by cases z)))))⟩
    replace hg := (gridAt_mask hg die).same (mask_got got1)
    have sA := mask_got got1
    have tabs1 := tabs_got tabs die got1
    clear got1 tabs
    refine ⟨_, rfl, _, rfl, p, t, rfl, die1, fun x H2 got2 gx => ⟨by show 2 ≤ sizeLine; decide, fun q nq => ⟨q, _, rfl, SqT.of upd_same, rfl, _, _, rfl, _, _, rfl, rfl, ?_⟩⟩⟩
    have s12 := (mask_got got2).trans (mask_mono (p := p) (Same.new (o := HO.tup [x, V.str (Str.ofString "")]) nq))
    replace hg := hg.same s12
    replace g1 := moG _ _ _ s12 g1
    replace sA := sA.trans s12
    have tabs2 := (tabs_got tabs1 die1 got2).ext (Same.new (o := HO.tup [x, V.str (Str.ofString "")]) nq)
    have die2 := die_same got2.die (Same.new (o := HO.tup [x, V.str (Str.ofString "")]) nq)
    obtain ⟨d, vd, md, mi, shp⟩ := (gx.nt wo_mask).same (mask_mono (p := p) (Same.new (o := HO.tup [x, V.str (Str.ofString "")]) nq))
    clear got2 gx tabs1 die1 s12
    generalize upd H2 q (HO.tup [x, V.str (Str.ofString "")]) = H3 at *
    clear nq
    -- a grid or none
    obtain ⟨bo, hbo⟩ : ∃ bo, (bo = true ∧ ∃ g, one = .ref g ∧ GridAt C U (mask p H3) g t) ∨ (bo = false ∧ NoGrid K C (mask p H3) one) := by
      rcases g1 with z | z
      · exact ⟨true, .inl ⟨rfl, z⟩⟩
      · exact ⟨false, .inr ⟨rfl, z⟩⟩
    clear g1
    refine if_grid i c hbo rfl rfl ?_
    refine ⟨_, rfl, _, rfl, x, t, 2, _, rfl, rowL_of (vd.same mask_same) md, ?_⟩
    rw [rowB_of]
    -- Rule
    refine met_s (p := p) (w := firstOf [wA bo, wR (isRowD t 2 d)]) die2 tabs2 (fun H1 s1 E Q1 ok bad => ?_) (fun H4 s4 die4 tabs4 => ?_)
    · refine ⟨_, rfl, _, rfl, nil_intro (mk_ruleX (t := t) ?_)⟩
      rcases hbo with ⟨rfl, g', rfl, hg'⟩ | ⟨rfl, ng⟩
      · rw [first_two] at ok bad
        refine .inr ⟨g', d, rfl, hg'.same s1, vd.same s1, md, fun b H' s' => ?_, fun r e okr q H' _ s' _ => ?_⟩
        · refine bad _ _ H' s' ?_
          rw [b]
          exact .rule none
        · have b : isRowD t 2 d = true := by rw [e]; exact isRow_row.mpr ⟨by have := okr.two; omega, okr.s⟩
          exact ok (by rw [b]; rfl) _ H' s'
      · rw [first_grid] at bad
        exact .inl ⟨ng.same s1, fun H' s' => bad _ _ H' s' (.grid none)⟩
    refine ⟨_, rfl, _, rfl, _, rfl, if_wR ⟨by show 2 ≤ sizeLine; decide, fun l nl => ⟨l, [wA bo, wR (isRowD t 2 d)], rfl, SqL.of upd_same, by show 2 ≤ 10; decide, List.forall_mem_cons.mpr ⟨wA_ok _, List.forall_mem_cons.mpr ⟨wR_ok _, nofun⟩⟩, fun H5 s5 => ⟨rfl, _, rfl, if_ne rfl ?_⟩⟩⟩⟩
    have s45 := (Same.new nl).trans s5
    replace s4 := s4.trans (mask_mono (p := p) s45)
    have die5 := die_same die4 s45
    have tabs5 := tabs4.ext s45
    clear s5 nl s45 die4 tabs4 die2 tabs2
    have moH : MonoG (fun M x => (bo = true ∧ ∃ g, x = .ref g ∧ GridAt C U M g t) ∨ (bo = false ∧ NoGrid K C M x)) := fun M M' x s h => h.imp (fun ⟨e, g, e2, a⟩ => ⟨e, g, e2, a.same s⟩) (fun ⟨e, a⟩ => ⟨e, a.same s⟩)
    replace hg := hg.same s4
    replace hbo := moH _ _ _ s4 hbo
    replace vd := vd.same s4
    replace sA := sA.trans s4
    clear s4
    -- is_row
    have nI : ∀ {M : Hp} {i : Int}, i.natAbs < 10 ^ 100 → NumV K M (.int i) := fun h => ⟨_, .int _, numD_int h⟩
    have nF : ∀ {M : Hp} {x : V} {d : PyData}, Dp K M x d → (d.showable && !d.hasDict && decide (d.depth ≤ 3) && decide (d.shown.length ≤ 31000) && PyData.strOk d.shown) = true → (∀ i, d ≠ .int i) → NumV K M x := fun h a b => ⟨_, h, numD_flat a b⟩
    refine ⟨_, rfl, ?_⟩
    refine tl_pick NumV.mono die5 (tl_lst NumV.mono (tn_cons NumV.mono (t1_int fun _ => nI (by decide)) (tn_cons NumV.mono (t1_int fun _ => nI (by decide)) (tn_cons NumV.mono (t1_int fun _ => nI (by decide)) (tn_cons NumV.mono (t1_int fun _ => nI (by decide)) (tn_cons NumV.mono (t1_int fun _ => nI (by decide))
      (tn_cons NumV.mono (fun H Q s k => ⟨_, rfl, k _ H same_rfl (nI (by decide))⟩) (tn_cons NumV.mono (t1_non fun _ => nF .non (by decide +kernel) nofun) (tn_cons NumV.mono (t1_bl fun _ => nF (.bl _) (by decide +kernel) nofun) (tn_cons NumV.mono (t1_str fun _ => nF (.str _) (by decide +kernel) nofun)
      (tn_cons NumV.mono (fun H Q s k => ⟨_, _, rfl, rfl, ⟨by decide, by decide, by decide⟩, k _ H same_rfl (nI (by decide +kernel))⟩) tn_nil))))))))))) (by decide) fun many H6 got6 die6 nv => ?_
    obtain ⟨dm, dpm, nm⟩ := nv
    have s6 := mask_got got6
    have tabs6 := tabs_got tabs5 die5 got6
    clear got6 tabs5 die5
    replace hg := hg.same s6
    replace hbo := moH _ _ _ s6 hbo
    replace vd := vd.same s6
    replace sA := sA.trans s6
    clear s6
    refine num_word (K := K) rfl (dp_same mask_same dpm) nm ?_
    refine met_s (p := p) (w := firstOf [wA bo, wN (cntB dm) dm]) die6 tabs6 (fun H1 s1 E Q1 ok bad => ?_) (fun H7 s7 die7 tabs7 => ?_)
    · refine ⟨_, rfl, _, rfl, _, rfl, rfl, rfl, _, _, _, _, rfl, dOf (dp_same s1 dpm), ?_⟩
      rcases hbo with ⟨rfl, g', rfl, hg'⟩ | ⟨rfl, ng⟩
      · rw [first_two] at ok bad
        refine .inr ⟨g', t, rfl, hg'.same s1, fun b dx H' s' nd => ?_, fun n e b => ⟨d, vd.same s1, md, fun H' s' => ?_⟩⟩
        · rw [cnt_of dpm nm] at b
          refine bad _ _ _ (s'.trans (Same.new nd)) ?_
          rw [b]
          exact .num upd_same (nm.shw (dp_same ((s1.trans s').trans (Same.new nd)) dpm))
        · rw [← e, cnt_of dpm nm] at b
          exact ok (by rw [b]; rfl) _ H' s'
      · rw [first_grid] at bad
        exact .inl ⟨ng.same s1, bad _ _ _ same_rfl (.grid none)⟩
    refine ⟨_, rfl, _, rfl, ⟨by show 2 ≤ sizeLine; decide, fun l nl => ⟨l, [wA bo, wN (cntB dm) dm], rfl, SqL.of upd_same, by show 2 ≤ 10; decide, List.forall_mem_cons.mpr ⟨wA_ok _, List.forall_mem_cons.mpr ⟨wN_ok nm, nofun⟩⟩, fun H8 s8 => ⟨rfl, _, rfl, if_ne rfl ?_⟩⟩⟩⟩
    have s78 := (Same.new nl).trans s8
    replace s7 := s7.trans (mask_mono (p := p) s78)
    have die8 := die_same die7 s78
    have tabs8 := tabs7.ext s78
    clear s8 nl s78 die7 tabs7 die6 tabs6
    replace hg := hg.same s7
    replace hbo := moH _ _ _ s7 hbo
    replace vd := vd.same s7
    replace dpm := dp_same s7 dpm
    replace sA := sA.trans s7
    clear s7
    -- what is_row tells
    dsimp only [tNext]
    refine if_told (b := bo && cntB dm) (H := H8) (j := 6) ?hc ?e6 (fun v6 H9 s9 => ?nx) (fun b kk => ?yes)
    case e6 => rfl
    case hc =>
      intro Q0 q0
      refine ⟨_, rfl, rfl, _, rfl, ?_⟩
      cases hb : bo with
      | false =>
        rw [hb] at q0
        rw [decide_eq_false (by intro z; exact absurd z (by decide +kernel))]
        exact iteF q0
      | true =>
        rw [hb, Bool.true_and] at q0
        rw [decide_eq_true (show V.str (wA true) = V.str (Str.ofString "") from rfl)]
        refine iteT ⟨_, rfl, rfl, _, rfl, ?_⟩
        cases hc : cntB dm with
        | true =>
          rw [hc] at q0
          rw [decide_eq_true (show V.str (wN true dm) = V.str (Str.ofString "") from rfl)]
          exact q0
        | false =>
          rw [hc] at q0
          rw [decide_eq_false (show ¬ V.str (wN false dm) = V.str (Str.ofString "") from fun z => num_ne dm (by injection z))]
          exact q0
    case yes =>
      obtain ⟨hb1, hb2⟩ := Bool.and_eq_true_iff.mp b
      subst hb1
      rcases hbo with ⟨_, g', rfl, hg'⟩ | ⟨z, _⟩
      case inr => cases z
      obtain ⟨n, rfl, rfl⟩ : ∃ n, many = .int n ∧ dm = .int n := by
        cases dpm with
        | int i => exact ⟨i, rfl, rfl⟩
        | _ => cases hb2
      have cn := cnt_of dpm nm
      rw [hb2] at cn
      refine ⟨_, rfl, _, rfl, _, rfl, rfl, rfl, _, _, _, _, rfl, .int, .inr ⟨g', t, rfl, hg'.same mask_same, (fun z => by rw [cn] at z; cases z), fun n' e _ => ⟨d, vd.same mask_same, md, fun H9 s9 => ?_⟩⟩⟩
      cases e
      refine ⟨_, rfl, _, .bool _, rfl, .inl ⟨.bl _, rfl, rfl⟩, by simp [PyData.depth], by cases isRowD t n d <;> decide +kernel, ?_⟩
      refine ⟨_, rfl, _, rfl, _, rfl, x, t, n, _, rfl, rowL_of ((vd.same mask_same).same s9) md, ?_⟩
      rw [rowB_of]
      refine ⟨_, .bool _, rfl, .bl _, rfl, rfl, by simp [PyData.depth], by cases isRowD t n d <;> decide +kernel, rfl, _, rfl, if_ne rfl (kk _ H9 s9)⟩
    have die9 := die_same die8 s9
    have tabs9 := tabs8.ext s9
    replace hbo := moH _ _ _ (mask_mono (p := p) s9) hbo
    replace vd := vd.same (mask_mono (p := p) s9)
    replace sA := sA.trans (mask_mono (p := p) s9)
    clear die8 tabs8 s9 hg dpm
    -- is_item
    refine item_go (M := mask p H9) (by rfl) mask_same vd md mi shp fun y HA sAA vy my => ?_
    have dieA := die_same die9 sAA
    have tabsA := tabs9.ext sAA
    replace hbo := moH _ _ _ (mask_mono (p := p) sAA) hbo
    replace vd := vd.same (mask_mono (p := p) sAA)
    replace vy := vy.same (mask_mono (p := p) sAA)
    replace sA := sA.trans (mask_mono (p := p) sAA)
    clear die9 tabs9 sAA
    refine met_s (p := p) (w := wA bo) dieA tabsA (fun H1 s1 E Q1 ok bad => ?_) (fun HB sB dieB tabsB => ?_)
    · refine ⟨_, rfl, _, rfl, _, y, rfl, ?_⟩
      rcases hbo with ⟨rfl, g', rfl, hg'⟩ | ⟨rfl, ng⟩
      · exact .inl ⟨g', t, _, rfl, hg'.same s1, vy.same s1, my, ok rfl _ _ same_rfl⟩
      · exact .inr ⟨ng.same s1, bad _ _ _ same_rfl (.grid none)⟩
    refine ⟨_, rfl, rfl, _, rfl, if_ne rfl ?_⟩
    replace hbo := moH _ _ _ sB hbo
    replace vd := vd.same sB
    replace vy := vy.same sB
    replace sA := sA.trans sB
    clear dieA tabsA sB
    dsimp only [tNext]
    refine if_skip (fun Q0 q0 => ?_) (fun HC sC => ?_)
    · refine ⟨_, rfl, rfl, _, rfl, ?_⟩
      rcases hbo with ⟨rfl, g', rfl, hg'⟩ | ⟨rfl, ng⟩
      · rw [decide_eq_true (show V.str (wA true) = V.str (Str.ofString "") from rfl)]
        refine iteT ⟨_, rfl, _, rfl, _, y, rfl, .inl ⟨g', t, _, rfl, hg'.same mask_same, vy.same mask_same, my, _, .bool _, rfl, .bl _, rfl, rfl, by simp [PyData.depth], by cases isItemD t (itemO d) <;> decide +kernel, ?_⟩⟩
        refine ⟨_, rfl, by show 1 ≤ sizeLine; decide, fun q nq => ⟨_, rfl, _, t, 1, some [itemO d], rfl, ⟨q, [y], rfl, SqT.of upd_same, rfl, by show 1 ≤ 1000; decide, fun j z e => ?_⟩, ?_⟩⟩
        · have e0 : j = 0 ∧ z = y := by
            cases j with
            | zero => exact ⟨rfl, by simpa using e.symm⟩
            | succ j => simp at e
          obtain ⟨rfl, rfl⟩ := e0
          exact ⟨_, rfl, (vy.same mask_same).same (Same.new nq), my⟩
        · have eB : rowB t 1 (some [itemO d]) = isItemD t (itemO d) := by
            show ((decide ((1 : Int) ≤ 1) && decide (1 ≤ 12)) && ([itemO d].all (isItemD t))) = _
            simp
          rw [eB]
          refine ⟨_, .bool _, rfl, .bl _, rfl, rfl, by simp [PyData.depth], by cases isItemD t (itemO d) <;> decide +kernel, rfl, _, rfl, by rw [ne_self]; exact q0 _ (Same.new nq)⟩
      · rw [decide_eq_false (show ¬ V.str (wA false) = V.str (Str.ofString "") by decide +kernel)]
        exact iteF (q0 _ same_rfl)
    have dieC := die_same dieB sC
    have tabsC := tabsB.ext sC
    replace vd := vd.same (mask_mono (p := p) sC)
    replace sA := sA.trans (mask_mono (p := p) sC)
    clear dieB tabsB sC hbo vy
    -- write_row
    refine met_s (p := p) (w := wR (isRowD true 1 d)) dieC tabsC (fun H1 s1 E Q1 ok bad => ?_) (fun HD sD dieD tabsD => ?_)
    · refine ⟨_, rfl, x, d, rfl, vd.same s1, md, fun b H' s' => ?_, fun b v H' s' => ok (by rw [b]; rfl) _ _ s'⟩
      refine bad _ _ H' s' ?_
      rw [b]
      exact .rule none
    refine ⟨_, rfl, x, true, 1, _, rfl, rowL_of ((vd.same sD).same mask_same) md, ?_⟩
    rw [rowB_of]
    refine ⟨_, rfl, if_wR ⟨rfl, ?_⟩⟩
    rw [decide_eq_true rfl]
    exact k _ (sA.trans sD) dieD tabsD
end
end K11
namespace K11
open PySem PySem.Spec PyProof.Rows L2 GL SkE PySem.GLE LamX
theorem pair_snoc {α β : Type} {F : α → β → Prop} {a : α} {b : β} : ∀ {l : List α} {m : List β}, Paired F l m → F a b → Paired F (l ++ [a]) (m ++ [b])
  | _, _, .nil, h => .cons h .nil
  | _, _, .cons x r, h => .cons x (pair_snoc r h)
theorem merge_new : ∀ {more kvs : List (Key × V)}, ((kvs ++ more).map (·.1)).Nodup → mergeK kvs more = kvs ++ more
  | [], kvs, _ => (List.append_nil _).symm
  | kv :: r, kvs, h => by
    have e : putK kvs kv.1 kv.2 = kvs ++ [kv] := by
      unfold putK
      rw [if_neg]
      rw [List.any_eq_true]
      rintro ⟨z, hz, he⟩
      have he := of_decide_eq_true he
      rw [List.map_append, List.nodup_append] at h
      exact h.2.2 z.1 (List.mem_map_of_mem hz) kv.1 (by simp) he
    show mergeK (putK kvs kv.1 kv.2) r = _
    rw [e, merge_new (by rw [List.append_assoc]; exact h), List.append_assoc]
    rfl
/-- all letters with one value -/
def kvZ (z : V) (ys : List Str) : List (Key × V) := ys.map fun y => ((.inr y : Key), z)
theorem kvZ_len {z : V} {ys : List Str} : (kvZ z ys).length = ys.length := by unfold kvZ; rw [List.length_map]
theorem kvZ_in {z : V} : ∀ {ys : List Str} {y : Str}, y ∈ ys → valV (kvZ z ys) (.inr y) = some z
  | [], y, h => by cases h
  | x :: r, y, h => by
    by_cases e : x = y
    · subst e
      exact valV_pos rfl
    · have m : y ∈ r := by
        rcases List.mem_cons.mp h with q | q
        · exact absurd q.symm e
        · exact q
      show valV (((.inr x : Key), z) :: kvZ z r) (.inr y) = _
      rw [valV_neg (fun q => e (by injection q))]
      exact kvZ_in m
theorem kvZ_out {z : V} : ∀ {ys : List Str} {y : Str}, y ∉ ys → valV (kvZ z ys) (.inr y) = none
  | [], y, h => rfl
  | x :: r, y, h => by
    show valV (((.inr x : Key), z) :: kvZ z r) (.inr y) = _
    rw [valV_neg (fun q => h (by injection q with q; rw [← q]; exact List.mem_cons_self))]
    exact kvZ_out (fun m => h (List.mem_cons_of_mem _ m))
theorem kvZ_nd {z : V} {ys : List Str} (h : ys.Nodup) : ((kvZ z ys).map (·.1)).Nodup := by
  unfold kvZ
  rw [List.map_map]
  show List.Pairwise _ _
  rw [List.pairwise_map]
  exact h.imp fun n e => n (by injection e)
theorem kvZ_merge {z : V} {ys : List Str} (h : ys.Nodup) : mergeK [] (kvZ z ys) = kvZ z ys := merge_new (by rw [List.nil_append]; exact kvZ_nd h)
theorem kvZ_mem {z : V} {ys : List Str} {p : Key × V} (h : p ∈ kvZ z ys) : ∃ y ∈ ys, p = (.inr y, z) := by
  obtain ⟨y, hy, rfl⟩ := List.mem_map.mp h
  exact ⟨y, hy, rfl⟩
theorem wipe1 (σ : L2.St) (j : Nat) (u : Option V) : wipe ((wipe σ [j]).set j u) [j] = wipe σ [j] := by
  show ((σ.set j none).set j u).set j none = σ.set j none
  rw [List.set_set, List.set_set]
theorem get1 {σ : L2.St} {j n : Nat} (l : σ.length = n) (h : j < n) (u : Option V) : ((wipe σ [j]).set j u)[j]? = some u := by
  show ((σ.set j none).set j u)[j]? = some u
  rw [List.set_set, List.getElem?_set_self (by rw [l]; exact h)]
theorem len_set {σ : L2.St} {j n : Nat} {u : Option V} (l : σ.length = n) : (σ.set j u).length = n := by rw [List.length_set]; exact l
/-! ### pairs of keys and values, made -/
def Prs (ps : List Addr) (kvs : List (Key × V)) (H : Hp) : Prop := Paired (fun q kv => H q = some (.tup [kV kv.1, kv.2])) ps kvs
theorem prs_tk {ps : List Addr} {kvs : List (Key × V)} {H H' : Hp} (h : Prs ps kvs H) (k : TK H H') : Prs ps kvs H' := _root_.L2.Paired.mapP h fun q kv e => k _ _ e (fun _ z => by cases z)
theorem prs_same {ps : List Addr} {kvs : List (Key × V)} {H H' : Hp} (h : Prs ps kvs H) (k : Same H H') : Prs ps kvs H' := prs_tk h (TK.of k)
section
variable {K : PySem.W.Frag} {a : Addr} {vs : List Nat} {σ : L2.St} {H1 : Hp} {D : Addr} {Qd : Hp → Prop} {j : Nat} {ys : List Str} {z : V} {tz : TE}
theorem str_at' {x : V} {i : Nat} (h : (ys.map V.str)[i]? = some x) : ∃ y, ys[i]? = some y ∧ x = .str y := by
  rw [List.getElem?_map] at h
  cases e : ys[i]? with
  | none => rw [e] at h; cases h
  | some y => rw [e] at h; cases h; exact ⟨y, rfl, rfl⟩
theorem pair_step {ps : List Addr} {i : Nat} {y : Str} {H' : Hp} {Qn : Hp → Prop} (hD : H1 D = none) (few : ys.length ≤ 1000) (hy : ys[i]? = some y) (s : Same H1 H') (lp : ps.length = i) (eD : H' D = some (.lst (ps.map V.ref))) (pp : Prs ps (kvZ z (ys.take i)) H')
    (q : ∀ H'', (Same H1 H'' ∧ ∃ ps : List Addr, ps.length = i + 1 ∧ H'' D = some (.lst (ps.map V.ref)) ∧ Prs ps (kvZ z (ys.take (i + 1))) H'') → Qn H'') :
    ∀ r, H' r = none → ∃ acc, (upd H' r (.tup [.str y, z])) D = some (.lst acc) ∧ acc.length < sizeLine ∧ Qn (upd (upd H' r (.tup [.str y, z])) D (.lst (acc ++ [.ref r]))) := fun r nr => by
  have iz := (List.getElem?_eq_some_iff.mp hy).1
  have e5 : upd H' r (.tup [.str y, z]) D = some (.lst (ps.map V.ref)) := Same.new nr _ _ eD
  have nrD : r ≠ D := fun e => by rw [e, eD] at nr; cases nr
  refine ⟨_, e5, by rw [List.length_map, lp, sizeLine_eq]; omega, q _ ⟨Same.over (s.trans (Same.new nr)) hD _, ps ++ [r], by rw [List.length_append, lp]; rfl, by rw [upd_same, List.map_append]; rfl, ?_⟩⟩
  rw [List.take_add_one, hy]
  unfold kvZ
  rw [List.map_append]
  exact pair_snoc (prs_tk pp ((TK.of (Same.new nr)).trans (TK.over e5))) (by rw [upd_ne nrD]; exact upd_same)
theorem lc_pairs (hs : SqT K H1 a (ys.map V.str)) (few : ys.length ≤ 1000) (hD : H1 D = none) (hw : ∀ u, wipe ((wipe σ vs).set j u) vs = wipe σ vs) (hj : ∀ u, ((wipe σ vs).set j u)[j]? = some u) (htz : ∀ σ H Q, Q z H → tz σ H Q)
    (done : ∀ H' ps, Same H1 H' → H' D = some (.lst (ps.map V.ref)) → Prs ps (kvZ z ys) H' → Qd H') :
    ∃ W : Nat → Nat → Hp → Prop, (∃ m, W 0 m (upd H1 D (.lst []))) ∧ ∀ i' m H, W i' m H → ((Itt K a).stop i' H ∧ Qd H) ∨ ((Itt K a).go i' H ∧ ∃ Nx : Hp → Prop, (∀ H', Nx H' → ∃ m', m' < m ∧ W (i' + 1) m' H') ∧
      ∀ x H', (Itt K a).yld i' H x H' → gName j x (wipe σ vs) H' fun σ2 H2 => wipe σ2 vs = wipe σ vs ∧ tYes σ2 H2 fun b H3 => if b = true then tTup (tCons (tVar j) (tCons tz tNil)) σ2 H3 fun y H4 => ∃ acc, H4 D = some (.lst acc) ∧ acc.length < sizeLine ∧ Nx (upd H4 D (.lst (acc ++ [y]))) else Nx H3) := by
  refine lc_tup (a := a) (xs := ys.map V.str) (fun i' H' => Same H1 H' ∧ ∃ ps : List Addr, ps.length = i' ∧ H' D = some (.lst (ps.map V.ref)) ∧ Prs ps (kvZ z (ys.take i')) H')
    ⟨Same.new hD, [], rfl, upd_same, .nil⟩ (fun i' H' _ h => sqT_same hs h.1) ?_ ?_
  · rintro i' x H' hx ⟨s, ps, lp, eD, pp⟩
    obtain ⟨y, hy, rfl⟩ := str_at' hx
    refine ⟨hw _, ?_⟩
    simp only [tYes, if_true]
    exact ⟨_, hj _, htz _ _ _ ⟨by show 2 ≤ sizeLine; decide, pair_step hD few hy s lp eD pp (fun _ h => h)⟩⟩
  · rintro H' ⟨s, ps, lp, eD, pp⟩
    rw [List.length_map, List.take_length] at pp
    exact done _ _ s eD pp
theorem lc_keys {d : Addr} {o : Obj} {kvs : List (Key × V)} {g : TG} {tt : TT} {te : TE} (Pv : Nat → Hp → Prop) (h0 : Pv 0 (upd H1 D (.lst []))) (hl : ∀ i H, i ≤ kvs.length → Pv i H → H d = some (.frz o (.dK kvs)))
    (hs : ∀ i k v H, kvs[i]? = some (k, v) → Pv i H → g (kV k) (wipe σ vs) H fun σ2 H2 => wipe σ2 vs = wipe σ vs ∧ tt σ2 H2 fun b H3 =>
      if b = true then te σ2 H3 fun y H4 => ∃ acc, H4 D = some (.lst acc) ∧ acc.length < sizeLine ∧ Pv (i + 1) (upd H4 D (.lst (acc ++ [y]))) else Pv (i + 1) H3) (hd : ∀ H, Pv kvs.length H → Qd H) :
    ∃ W : Nat → Nat → Hp → Prop, (∃ m, W 0 m (upd H1 D (.lst []))) ∧ ∀ i m H, W i m H →
      ((Itk d o kvs).stop i H ∧ Qd H) ∨ ((Itk d o kvs).go i H ∧ ∃ Nx : Hp → Prop, (∀ H', Nx H' → ∃ m', m' < m ∧ W (i + 1) m' H') ∧ ∀ x H', (Itk d o kvs).yld i H x H' → g x (wipe σ vs) H' fun σ2 H2 => wipe σ2 vs = wipe σ vs ∧ tt σ2 H2 fun b H3 =>
        if b = true then te σ2 H3 fun y H4 => ∃ acc, H4 D = some (.lst acc) ∧ acc.length < sizeLine ∧ Nx (upd H4 D (.lst (acc ++ [y]))) else Nx H3) := by
  refine ⟨fun i m H => m = kvs.length - i ∧ i ≤ kvs.length ∧ Pv i H, ⟨kvs.length, by simp, Nat.zero_le _, h0⟩, ?_⟩
  rintro i m H ⟨rfl, hi, p⟩
  have q := hl i H hi p
  by_cases hlt : i < kvs.length
  · refine .inr ⟨⟨q, hlt⟩, Pv (i + 1), fun H' p' => ⟨kvs.length - (i + 1), by omega, rfl, hlt, p'⟩, fun x H' y => ?_⟩
    obtain ⟨rfl, k, v, e, rfl⟩ := y
    exact hs i k v _ e p
  · have e : i = kvs.length := by omega
    subst e
    exact .inl ⟨⟨q, Nat.le_refl _⟩, hd H p⟩
theorem lc_pairsK {d : Addr} {o : Obj} {z0 : V} (hs : H1 d = some (.frz o (.dK (kvZ z0 ys)))) (few : ys.length ≤ 1000) (hD : H1 D = none) (hw : ∀ u, wipe ((wipe σ vs).set j u) vs = wipe σ vs) (hj : ∀ u, ((wipe σ vs).set j u)[j]? = some u) (htz : ∀ σ H Q, Q z H → tz σ H Q)
    (done : ∀ H' ps, Same H1 H' → H' D = some (.lst (ps.map V.ref)) → Prs ps (kvZ z ys) H' → Qd H') :
    ∃ W : Nat → Nat → Hp → Prop, (∃ m, W 0 m (upd H1 D (.lst []))) ∧ ∀ i' m H, W i' m H → ((Itk d o (kvZ z0 ys)).stop i' H ∧ Qd H) ∨ ((Itk d o (kvZ z0 ys)).go i' H ∧ ∃ Nx : Hp → Prop, (∀ H', Nx H' → ∃ m', m' < m ∧ W (i' + 1) m' H') ∧
      ∀ x H', (Itk d o (kvZ z0 ys)).yld i' H x H' → gName j x (wipe σ vs) H' fun σ2 H2 => wipe σ2 vs = wipe σ vs ∧ tYes σ2 H2 fun b H3 => if b = true then tTup (tCons (tVar j) (tCons tz tNil)) σ2 H3 fun y H4 => ∃ acc, H4 D = some (.lst acc) ∧ acc.length < sizeLine ∧ Nx (upd H4 D (.lst (acc ++ [y]))) else Nx H3) := by
  refine lc_keys (fun i' H' => Same H1 H' ∧ ∃ ps : List Addr, ps.length = i' ∧ H' D = some (.lst (ps.map V.ref)) ∧ Prs ps (kvZ z (ys.take i')) H')
    ⟨Same.new hD, [], rfl, upd_same, .nil⟩ (fun i' H' _ h => h.1 _ _ hs) ?_ ?_
  · rintro i' k v H' hx ⟨s, ps, lp, eD, pp⟩
    obtain ⟨y, hy, rfl⟩ : ∃ y, ys[i']? = some y ∧ k = .inr y := by
      unfold kvZ at hx
      rw [List.getElem?_map] at hx
      cases e : ys[i']? with
      | none => rw [e] at hx; cases hx
      | some y => rw [e] at hx; cases hx; exact ⟨y, rfl, rfl⟩
    refine ⟨hw _, ?_⟩
    simp only [tYes, if_true]
    exact ⟨_, hj _, htz _ _ _ ⟨by show 2 ≤ sizeLine; decide, pair_step hD few hy s lp eD pp (fun _ h => h)⟩⟩
  · rintro H' ⟨s, ps, lp, eD, pp⟩
    rw [kvZ_len, List.take_length] at pp
    exact done _ _ s eD pp
end
/-- a list of these pairs is made -/
def TP (H0 : Hp) (σ : L2.St) (t : TE) (kvs : List (Key × V)) : Prop := ∀ H Q, Same H0 H → (∀ l ps H', Same H H' → H l = none → H' l = some (.lst (ps.map V.ref)) → Prs ps kvs H' → Q (.ref l) H') → t σ H Q
def rDictP (K : PySem.W.Frag) : List V → Hp → VK → Prop := fun xs H Q => ∃ (a : Addr) (ps : List Addr) (kvs : List (Key × V)), xs = [.ref a] ∧ SqL K H a (ps.map V.ref) ∧ Paired (fun p kv => SqT K H p [kV kv.1, kv.2]) ps kvs ∧ ∀ p, H p = none → Q (.ref p) (upd H p (.dK (mergeK [] kvs)))
section
variable {K : PySem.W.Frag} {p : Addr} {H0 : Hp} {σ : L2.St} {t : TE} {G : Hp → V → Prop} {z : V} {ys : List Str} {kvs : List (Key × V)}
theorem tp_dict (a : TP H0 σ t kvs) (m : mergeK [] kvs = kvs) {H : Hp} {Q : VK} (s : Same H0 H) (k : ∀ q H', Same H H' → H q = none → H' q = some (.dK kvs) → Q (.ref q) H') : tCB (rDictP K) (tCons t tNil) σ H Q := a H _ s fun l ps H' s1 n1 e1 pp =>
  ⟨l, ps, kvs, rfl, SqL.of e1, _root_.L2.Paired.mapP pp fun q kv e => SqT.of e, fun q nq => k q _ (s1.trans (Same.new nq)) (none_of s1 nq) (by rw [upd_same, m])⟩
theorem t1_dictP (hp : H0 p ≠ none) (a : TP H0 σ t kvs) (m : mergeK [] kvs = kvs) (g : ∀ M q, M q = some (.dK kvs) → G M (.ref q)) : T1 p H0 σ (tCB (rDictP K) (tCons t tNil)) G := fun H Q s k => tp_dict a m s fun q H' s1 n1 e => k _ H' s1 (g _ _ (mask_at e (np_ne (hpk s hp) n1) (fun _ z => by cases z)))
theorem tp_items {j : Nat} {d : Addr} (e : σ[j]? = some (some (.ref d))) (h : H0 d = some (.dK kvs)) : TP H0 σ (LiI.tListItems (tVar j)) kvs := fun H Q s k => ⟨_, e, d, kvs, rfl, s _ _ h, fun H' q ts s1 n1 _ _ e1 pp => k q ts H' s1 n1 e1 pp⟩
theorem cut_1 {xs : List V} (h : 1 ≤ xs.length) : cutV xs (some 1) none = xs.drop 1 := by
  unfold cutV
  have e1 : HT.sIx xs.length 0 (some 1) = 1 := by
    unfold HT.sIx
    simp
    omega
  have e2 : HT.sIx xs.length xs.length none = xs.length := rfl
  rw [e1, e2, List.take_of_length_le (by simp)]
theorem paired_len {α β : Type} {F : α → β → Prop} : ∀ {l : List α} {m : List β}, Paired F l m → l.length = m.length
  | _, _, .nil => rfl
  | _, _, .cons _ r => by simp [paired_len r]
theorem paired_drop {α β : Type} {F : α → β → Prop} : ∀ {l : List α} {m : List β}, Paired F l m → Paired F (l.drop 1) (m.drop 1)
  | _, _, .nil => .nil
  | _, _, .cons _ r => r
theorem tp_drop (a : TP H0 σ t kvs) (h : 1 ≤ kvs.length) : TP H0 σ (tSl (rSlL K) t (tPart (tC (V.int 1))) tNoPart) (kvs.drop 1) := fun H Q s k => a H _ s fun l ps H' s1 n1 e1 pp =>
  ⟨1, rfl, l, _, rfl, SqL.of e1, fun q nq => by
    have lp := paired_len pp
    rw [cut_1 (by rw [List.length_map]; omega), ← List.map_drop]
    exact k q (ps.drop 1) _ (s1.trans (Same.new nq)) (none_of s1 nq) upd_same (prs_same (paired_drop pp) (Same.new nq))⟩
theorem tp_snoc {x y : String} (a : TP H0 σ t kvs) (few : kvs.length ≤ 1000) : TP H0 σ (tOp rCat t (tLst (tCons (tTup (tCons (tC (V.str (Str.ofString x))) (tCons (tC (V.str (Str.ofString y))) tNil))) tNil))) (kvs ++ [(.inr (Str.ofString x), .str (Str.ofString y))]) := fun H Q s k => a H _ s fun l ps H1 s1 n1 e1 pp => by
  refine ⟨by show 2 ≤ sizeLine; decide, fun q nq => ⟨by show 1 ≤ sizeLine; decide, fun r nr => ?_⟩⟩
  have lp := paired_len pp
  have s2 := (Same.new (o := .tup [V.str (Str.ofString x), V.str (Str.ofString y)]) nq).trans (Same.new (o := .lst [V.ref q]) nr)
  refine ⟨l, r, _, _, rfl, rfl, s2 _ _ e1, upd_same, by rw [List.length_map, lp, sizeLine_eq]; show kvs.length + 1 ≤ _; omega, fun u nu => ?_⟩
  have s3 := s2.trans (Same.new (o := .lst (ps.map V.ref ++ [V.ref q])) nu)
  refine k u (ps ++ [q]) _ (s1.trans s3) (none_of (s1.trans s2) nu) (by rw [upd_same, List.map_append]; rfl) (pair_snoc (prs_same pp s3) ?_)
  exact Same.new nu _ _ (Same.new nr _ _ upd_same)
theorem tp_keys {d : Addr} {z0 : V} {j i : Nat} {tz : TE} (e : σ[i]? = some (some (.ref d))) (h : H0 d = some (.dK (kvZ z0 ys))) (few : ys.length ≤ 1000) (hw : ∀ u, wipe ((wipe σ [j]).set j u) [j] = wipe σ [j]) (hj : ∀ u, ((wipe σ [j]).set j u)[j]? = some u) (htz : ∀ σ H Q, Q z H → tz σ H Q) :
    TP H0 σ (tLockE (tLc (iKeys (tVar i)) (gName j) tYes (tTup (tCons (tVar j) (tCons tz tNil))) [j])) (kvZ z ys) := fun H Q s k => by
  have hd := s _ _ h
  refine ⟨d, _, hd, trivial, fun od => ?_⟩
  have eF : upd H d (.frz od (.dK (kvZ z0 ys))) d = some (.frz od (.dK (kvZ z0 ys))) := upd_same
  refine ⟨_, e, d, od, rfl, .inl ⟨_, eF, fun D hD => ?_⟩⟩
  refine lc_pairsK eF few hD hw hj htz (fun H' ps s' eD pp => ⟨s' _ _ eF, ?_⟩)
  have nD : D ≠ d := fun q => by rw [q, eF] at hD; cases hD
  have sH : Same H (upd H' d (.dK (kvZ z0 ys))) := fun b o eb => by
    by_cases q : b = d
    · subst q
      rw [upd_same, ← hd, eb]
    · rw [upd_ne q]
      exact s' _ _ (by rw [upd_ne q]; exact eb)
  refine k D ps _ sH ?_ ?_ ?_
  · rw [upd_ne nD] at hD
    exact hD
  · rw [upd_ne nD]
    exact eD
  · exact _root_.L2.Paired.mapP pp fun q kv eq => by
      rw [upd_ne (fun w => by rw [w, s' _ _ eF] at eq; cases eq)]
      exact eq
end
section
variable {p : Addr} {H0 : Hp} {σ : L2.St} {t t2 : TE} {n m : Nat} {G : Hp → V → Prop} {l : Addr} {vs : List V} {j : Nat}
theorem tl_catL (mo : MonoG G) (e : σ[j]? = some (some (.ref l))) (el : H0 l = some (.lst vs)) (g : ∀ v ∈ vs, G (mask p H0) v) (c : vs.length = n) (b : TL p H0 σ t2 m G) (few : n + m ≤ 1000 := by decide) : TL p H0 σ (tOp rCat (tVar j) t2) (n + m) G := fun H Q s k => ⟨_, e, b H _ s fun l2 vs2 H2 s2 n2 e2 g2 c2 => by
  refine ⟨l, l2, vs, vs2, rfl, rfl, s2 _ _ (s _ _ el), e2, by rw [c, c2, sizeLine_eq]; omega, fun q nq => k q _ _ (s2.trans (Same.new nq)) (none_of s2 nq) upd_same (fun v hv => ?_) (by rw [List.length_append, c, c2])⟩
  rcases List.mem_append.mp hv with z | z
  · exact mo _ _ _ (mask_mono ((s.trans s2).trans (Same.new nq))) (g v z)
  · exact mo _ _ _ (mask_mono (Same.new nq)) (g2 v z)⟩
theorem tl_catR (mo : MonoG G) (a : TL p H0 σ t n G) (e : σ[j]? = some (some (.ref l))) (el : H0 l = some (.lst vs)) (g : ∀ v ∈ vs, G (mask p H0) v) (c : vs.length = m) (few : n + m ≤ 1000 := by decide) : TL p H0 σ (tOp rCat t (tVar j)) (n + m) G := fun H Q s k => a H _ s fun l1 vs1 H1 s1 n1 e1 g1 c1 => ⟨_, e, by
  refine ⟨l1, l, vs1, vs, rfl, rfl, e1, s1 _ _ (s _ _ el), by rw [c, c1, sizeLine_eq]; omega, fun q nq => k q _ _ (s1.trans (Same.new nq)) (none_of s1 nq) upd_same (fun v hv => ?_) (by rw [List.length_append, c, c1])⟩
  rcases List.mem_append.mp hv with z | z
  · exact mo _ _ _ (mask_mono (Same.new nq)) (g1 v z)
  · exact mo _ _ _ (mask_mono ((s.trans s1).trans (Same.new nq))) (g v z)⟩
end
/-! ### a value that may be a renaming: is it one, and is it the one that is -/
def VG (K : PySem.W.Frag) (ys : List Str) (M : Hp) (x : V) : Prop := ∃ b, RenV K M ys x b ∧ DV K M x (kvZ (.str (Str.ofString "b")) ys) b
section
variable {K : PySem.W.Frag} {M M' : Hp} {ys zs : List Str} {z x : V} {q : Addr} {d : PyData}
theorem RenV.same {b : Bool} (h : RenV K M ys x b) (s : Same M M') : RenV K M' ys x b := h.imp (fun ⟨e, k, o, n⟩ => ⟨e, k, tyX_same o s, n⟩) (fun ⟨d, kvs, e, h, r⟩ => ⟨d, kvs, e, s _ _ h, r⟩)
theorem _root_.GL.DV.same {b : Bool} {ls : List (Key × V)} (h : DV K M x ls b) (s : Same M M') : DV K M' x ls b := h.imp (fun ⟨a, ks, e, h, r⟩ => ⟨a, ks, e, s _ _ h, r⟩) (fun ⟨d, h, r⟩ => ⟨d, dp_same s h, r⟩)
theorem VG.mono : MonoG (VG K ys) := fun _ _ _ s ⟨b, h1, h2⟩ => ⟨b, h1.same s, h2.same s⟩
theorem vg_data (h : Dp K M x d) (nb : ∀ t, d ≠ .bool t) : VG K ys M x := ⟨false, .inl ⟨rfl, _, dOf h, by cases h <;> (intro z; cases z)⟩, .inr ⟨d, h, nb, rfl⟩⟩
theorem vg_dict (e : M q = some (.dK (kvZ z zs))) (tz : z = .non ∨ ∃ s, z = .str s ∧ s.length ≤ 1000) (eq : renOk (kvZ z zs) ys = (decide (zs.length = ys.length) && hitsB (kvZ (.str (Str.ofString "b")) ys) (kvZ z zs))) : VG K ys M (.ref q) := by
  refine ⟨_, .inr ⟨q, _, rfl, e, fun y _ => ?_, rfl⟩, .inl ⟨q, _, rfl, e, fun p hp => ?_, fun p hp w hw => ?_, by rw [eq, kvZ_len, kvZ_len]⟩⟩
  · by_cases h : y ∈ zs
    · rw [kvZ_in h]
      rcases tz with rfl | ⟨s, rfl, l⟩
      · exact .inr (.inl rfl)
      · exact .inr (.inr ⟨s, rfl, l⟩)
    · rw [kvZ_out h]
      exact .inl rfl
  · obtain ⟨y, _, rfl⟩ := kvZ_mem hp
    rcases tz with rfl | ⟨s, rfl, l⟩ <;> rfl
  · obtain ⟨y, _, rfl⟩ := kvZ_mem hp
    by_cases h : y ∈ ys
    · rw [show valV (kvZ (.str (Str.ofString "b")) ys) (.inr y) = _ from kvZ_in h] at hw
      cases hw
      rfl
    · rw [show valV (kvZ (.str (Str.ofString "b")) ys) (.inr y) = _ from kvZ_out h] at hw
      cases hw
theorem eq_len (h : zs.length ≠ ys.length) : renOk (kvZ z zs) ys = (decide (zs.length = ys.length) && hitsB (kvZ (.str (Str.ofString "b")) ys) (kvZ z zs)) := by
  unfold renOk
  rw [kvZ_len, decide_eq_false h, Bool.false_and, Bool.false_and]
theorem hits_own (ls : List (Key × V)) : ∀ zs : List Str, hitsB ls (kvZ z zs) = zs.all fun y => match valV ls (.inr y) with | some w => decide (z = w) | none => false
  | [] => rfl
  | y :: r => by
    show (_ && hitsB ls (kvZ z r)) = _
    rw [hits_own ls r, List.all_cons]
    try rfl
theorem eq_own (l : 1 ≤ ys.length) (h : z = .str (Str.ofString "b") ∨ (z ≠ .str (Str.ofString "b") ∧ ∀ s, z = .str s → LetS s = false)) : renOk (kvZ z ys) ys = (decide (ys.length = ys.length) && hitsB (kvZ (.str (Str.ofString "b")) ys) (kvZ z ys)) := by
  unfold renOk
  rw [kvZ_len, hits_own]
  congr 1
  rcases h with rfl | ⟨n, h⟩
  · rw [List.all_eq_true.mpr, List.all_eq_true.mpr]
    · intro y hy
      rw [kvZ_in hy]
      exact decide_eq_true rfl
    · intro y hy
      unfold letAt
      rw [kvZ_in hy]
      decide +kernel
  · obtain ⟨y, hy⟩ : ∃ y, y ∈ ys := List.exists_mem_of_length_pos l
    rw [List.all_eq_false.mpr ⟨y, hy, ?_⟩, List.all_eq_false.mpr ⟨y, hy, ?_⟩]
    · rw [kvZ_in hy]
      simpa using n
    · unfold letAt
      rw [kvZ_in hy]
      cases z with
      | str s => simpa using h s rfl
      | _ => simp
theorem eq_x {x : Str} (n : x ∉ ys) : renOk (kvZ z [x]) ys = (decide ([x].length = ys.length) && hitsB (kvZ (.str (Str.ofString "b")) ys) (kvZ z [x])) := by
  by_cases h : [x].length = ys.length
  case neg => exact eq_len h
  unfold renOk
  rw [kvZ_len, hits_own]
  congr 1
  obtain ⟨y, hy⟩ : ∃ y, y ∈ ys := List.exists_mem_of_length_pos (by rw [← h]; show 0 < 1; decide)
  rw [List.all_eq_false.mpr ⟨y, hy, ?_⟩, List.all_eq_false.mpr ⟨x, List.mem_cons_self, ?_⟩]
  · rw [kvZ_out n]
    exact Bool.false_ne_true
  · unfold letAt
    rw [kvZ_out (fun m => n (by rw [List.mem_singleton.mp m] at hy; exact hy))]
    exact Bool.false_ne_true
end
/-! ### numbers told -/
def ltB (n : Int) : PyData → Bool
  | .int i => decide (i < n)
  | _ => false
section
variable {K : PySem.W.Frag} {H : Hp} {x : V} {d : PyData}
theorem idx_of (h : Dp K H x d) (n : NumD d) (m : Nat) : idxOk m x = (cntB d && ltB m d) := by
  cases h with
  | int i =>
    show (isCountV (.int i) && _) = _
    rw [cnt_of (.int i : Dp K H _ _) n]
    rfl
  | _ => rfl
theorem turn_of (n : NumD d) (t : Bool) : isTurnD t d = (cntB d && ltB (num t : Nat) d) := by
  cases d with
  | int i =>
    show ((isIntV (.int i) && decide ((0 : Int) ≤ i)) && decide (i < (num t : Int))) = _
    rw [n.int i rfl, Bool.true_and]
    rfl
  | _ => rfl
theorem num_told {σ : L2.St} {Q : VK} {j : Nat} (e : σ[j]? = some (some x)) (h : Dp K H x d) (n : NumD d) (q : Q (.str (Str.ofString "number " ++ d.shown)) H) :
    tOp (fun x y H Q => ∃ i j, x = V.str i ∧ y = V.str j ∧ i.length + j.length ≤ sizeLine ∧ Q (V.str (i ++ j)) H) (tC (V.str (Str.ofString "number "))) (tCB (rReprQ K) (tCons (tVar j) tNil)) σ H Q := by
  have l7 : (Str.ofString "number ").length = 7 := by decide
  have ln := n.len
  exact ⟨_, e, _, _, rfl, .inl ⟨h, n.sh, n.nd⟩, Nat.le_trans n.dep (by decide), Nat.le_trans ln (by rw [sizeLine_eq]; decide), _, _, rfl, rfl, by rw [l7, sizeLine_eq]; omega, q⟩
theorem num_fine {σ : L2.St} {Q : VK} {j : Nat} (e : σ[j]? = some (some x)) (h : Dp K H x d) (q : Q (.bl (cntB d)) H) :
    tAndV (tCB (rIsi K) (tCons (tVar j) (tCons (tC (V.ty "int")) tNil))) (tAndV (tNotV (tCB (rIsi K) (tCons (tVar j) (tCons (tC (V.ty "bool")) tNil)))) (tOp (rI0 fun i j => V.bl (decide (j ≤ i))) (tVar j) (tC (V.int 0)))) σ H Q := by
  refine ⟨_, e, _, _, _, _, _, rfl, .ty _, dOf h, GL.kit_int _, _, rfl, ?_⟩
  cases h with
  | int i => exact iteT ⟨_, e, _, _, _, _, _, rfl, .ty _, dOf (.int i : Dp K H _ _), GL.kit_bool _, _, rfl, _, rfl, iteT ⟨_, e, _, _, rfl, rfl, q⟩⟩
  | bl b => exact iteT ⟨_, e, _, _, _, _, _, rfl, .ty _, dOf (.bl b : Dp K H _ _), GL.kit_bool _, _, rfl, _, rfl, iteF q⟩
  | non => exact iteF q
  | str y => exact iteF q
  | lst h a => exact iteF q
  | tup h a => exact iteF q
end
theorem RuleAt.nt {K : PySem.W.Frag} {C CR : Addr} {U : Bool → Addr} {M M' : Hp} {p : Addr} {t : Bool} {r : RowT} (h : RuleAt K C U CR M p t r) (s : NT M M') : RuleAt K C U CR M' p t r := by
  obtain ⟨dx, g, x, l, st, e, ys, h1, ⟨dg, h2⟩, ok, h3, h4, h5, h6, h7⟩ := h
  exact ⟨dx, g, x, l, st, e, ys, s _ _ h1 (fun _ z => by cases z), ⟨dg, s _ _ h2 (fun _ z => by cases z)⟩, ok, dp_nt s h3, h4, dp_nt s h5, dp_nt s h6, dp_nt s h7⟩
theorem rule_mask {K : PySem.W.Frag} {C CR : Addr} {U : Bool → Addr} {H : Hp} {p q : Addr} {t : Bool} {r : RowT} (h : RuleAt K C U CR H q t r) (d : Die H p) : RuleAt K C U CR (mask p H) q t r := (RuleAt.tk h (TK.wo (die_lst d).choose_spec)).nt wo_mask
theorem rowOk_up {t : Bool} {r : RowT} (h : RowOk false r) : RowOk t r := ⟨h.two, h.most, fun it hi => ⟨(h.all it hi).l, (h.all it hi).a, Int.lt_of_lt_of_le (h.all it hi).b (by cases t <;> decide)⟩⟩
theorem rowD_inj {r r' : RowT} (e : rowD r = rowD r') : r = r' := by
  have z := row_eqv r r'
  rw [← e, row_eqv] at z
  simpa using z
theorem mk_ruleG {K : PySem.W.Frag} {C CR : Addr} {U : Bool → Addr} {cs : Cs} {H1 : Hp} {g : Addr} {x : V} {t : Bool} {r : RowT} {Q : Addr → Hp → Prop} {E : XK} (hg : GridAt C U H1 g t) (hx : Dp K H1 x (rowD r)) (ok : RowOk t r) (k : ∀ q H', H1 q = none → Same H1 H' → RuleAt K C U CR H' q t r → Q q H') :
    ∀ q dq, H1 q = none → H1 dq = none → dq ≠ q → spRInitX K C U CR cs (.ref q :: ([.ref g, x] ++ [])) (upd (upd H1 dq (.own q)) q (.ins CR dq [])) (fun v H2 => v = .non ∧ Q q H2) E := by
  intro q dq hq hdq ne
  have s1 : Same H1 (upd (upd H1 dq (.own q)) q (.ins CR dq [])) := (Same.new hdq).trans (Same.new (by rw [upd_ne ne.symm]; exact hq))
  refine ⟨q, dq, _, x, rfl, upd_same, .inr ⟨g, t, _, rfl, hg.same s1, .inl (dp_same s1 hx), row_mild ok.s, fun b => ?_, fun r' e ok' H' keep rule => ⟨rfl, ?_⟩⟩⟩
  · rw [isRow_row.mpr ⟨by have := ok.two; omega, ok.s⟩] at b
    cases b
  · obtain rfl := rowD_inj e
    exact k q H' hq (fun b o e => keep b o (fun z => by rw [z, hq] at e; cases e) (s1 b o e)) rule
def wO (b : Bool) : Str := if b = true then Str.ofString "" else Str.ofString "operation"
theorem if_wO {b : Bool} {Q : VK} {σ : L2.St} {H : Hp} (h : Q (.str (wO b)) H) : if b = true then tC (V.str (Str.ofString "")) σ H Q else tC (V.str (Str.ofString "operation")) σ H Q := by
  cases b
  · exact iteF h
  · exact iteT h
theorem lets_pos {t : Bool} {r : RowT} {ys : List Str} (ok : RowOk t r) (h : Lets r ys) : 1 ≤ ys.length ∧ ys.length ≤ 12 ∧ ys.Nodup := by
  have l := h.1.length_eq
  have u := setS_len (r.map (·.1))
  rw [List.length_map] at u
  have m := ok.most
  refine ⟨?_, by omega, h.1.nodup_iff.mpr (setS_nodup _)⟩
  cases r with
  | nil => exact absurd ok.two (by decide)
  | cons it r =>
    have z : it.1 ∈ setS ((it :: r).map (·.1)) := (setS_mem _ _).mpr List.mem_cons_self
    have := List.length_pos_of_mem z
    omega
theorem lets_mem {r : RowT} {ys : List Str} (h : Lets r ys) {y : Str} (m : y ∈ ys) : ∃ it ∈ r, it.1 = y := by
  have z := (setS_mem _ _).mp (h.1.mem_iff.mp m)
  obtain ⟨it, hi, e⟩ := List.mem_map.mp z
  exact ⟨it, hi, e⟩
end K11
namespace K11
open PySem PySem.Spec PyProof.Rows L2 GL SkE PySem.GLE LamX
abbrev s__law_calls_right : Stmt := topS 51
abbrev N__law_calls_right : List Str := ["_law_dice_here", "_law_grid", "_law_around", "_law_is_fine", "_law_word", "_law_fine", "_law_odd", "_law_at", "_law_other", "_law_rule", "_law_value", "_law_name"]
theorem sc__law_calls_right : FnScope N__law_calls_right ["_law_dice_here", "_law_grid", "_law_around"] (defScope s__law_calls_right) := ⟨rfl, rfl, rfl, by decide +kernel, rfl, by decide +kernel, by decide +kernel⟩
theorem op_binO' {X : Cx} {CX : CXT} {k : Nat} {IsV : Addr → Prop} {sp : Sp} {E : XK} {m : Str} {CG : Addr} {op : Operator} {K0 : PySem.W.Frag} (hK : X.K = K0) (hn : PySem.dunder op.info.2 = m) (hmem : op.info.2 ∈ ["add", "sub", "mul", "floordiv"]) (h : ∀ C, IsV C → HasM X.prog X.w K0 X.mg X.base CX C m k ["self", "other"] sp) (bk : ∀ C D, IsV C → IsV D → BinK K0 C D op)
    (bc : ∀ C, IsV C → BinC K0 C op.info.2) (bg : BareC K0 CG op.info.2) (ng : ∀ C, IsV C → C ≠ CG) (g : Gd X.A) (hr : Room k X.A) (hx : Passes CX X E) : OpR X (binaryOp op) (rBinO K0 IsV CG sp E) := by
  subst hK
  exact op_binO hn hmem h bk bc bg ng g hr hx
section
variable {P : Program} {w : World} {K : PySem.W.Frag} {mg : Str → Option Value} {base : Heap}
variable {aG dU C CR : Addr} {U : Bool → Addr} {us : Bool → List Addr} {cs : Cs}
variable {cT : List (Addr × Str)} {cA PA : Addr}
def tLenR (K : PySem.W.Frag) (C : Addr) (U : Bool → Addr) (CR : Addr) (j : Nat) : TE := tCB (fun xs H Q => ∃ a dx fs, xs = [V.ref a] ∧ H a = some (HO.ins CR dx fs) ∧ spRLen K C U CR [V.ref a] H (fun v H' => ∃ n, v = V.int n ∧ 0 ≤ n ∧ n < 2 ^ 63 ∧ Q (V.int n) H') E0) (tCons (tVar j) tNil)
theorem len_go {H : Hp} {Q : Int → Hp → Prop} {q : Addr} {t : Bool} {r : RowT} (h : RuleAt K C U CR H q t r) (k : Q (r.length : Int) H) : ∃ a dx fs, [V.ref q] = [V.ref a] ∧ H a = some (HO.ins CR dx fs) ∧ spRLen K C U CR [V.ref a] H (fun v H' => ∃ n, v = V.int n ∧ 0 ≤ n ∧ n < 2 ^ 63 ∧ Q n H') E0 := by
  obtain ⟨dx0, gx, rx, lx, sx, ex, _, e1, _, ok, _⟩ := id h
  have l := ok.most
  exact ⟨q, _, _, rfl, e1, q, t, r, rfl, h, _, rfl, by omega, by omega, k⟩
theorem calls_end (c : GCls K C) (i : GIs K C) (rc : RCls K CR) (ri : GIs K CR) (cs : Cs) {p g q : Addr} {t : Bool} {r0 : RowT} {oth : V} {HF : Hp} {σ : L2.St} {D : Ends} (hg : GridAt C U (mask p HF) g t) (rule : RuleAt K C U CR (mask p HF) q t r0)
    (go : (∃ q t2 r2, oth = .ref q ∧ RuleAt K C U CR (mask p HF) q t2 r2) ∨ ∃ kd, Of K (mask p HF) oth kd) (dieF : Die HF p) (tabsF : Tabs cT HF) (e9 : σ[9]? = some (some (.ref q))) (e8 : σ[8]? = some (some oth)) (eg1 : σ[1]? = some (some (.ref g))) (l : σ.length = 12)
    (k : ∀ H', Same (mask p HF) (mask p H') → Die H' p → Tabs cT H' → D.rt (.bl true) H') :
    tSeq (tAsg (tC (V.str (Str.ofString "rule"))) (gName 4)) (tSeq (tIfS (tB (tCB (rIsi K) (tCons (tVar 8) (tCons (tC (V.ref CR)) tNil))))
      (tAsg (tIf (tAnd (tTest (tOp (rEqA K C (spGEq K C U) E0 false) (tFld K (tVar 8) (Str.ofString "grid")) (tVar 1))) (tTest (tOp (rI0 fun i j => V.bl (decide (i ≤ j))) (tOp (rI0 fun i j => V.int (i + j)) (tLenR K C U CR 9) (tLenR K C U CR 8)) (tC (V.int 12)))))
        (tC (V.str (Str.ofString ""))) (tC (V.str (Str.ofString "rule")))) (gName 4)) tNext)
      (tRet (tOp rEq (tLam cT (TMet K cs) fun E => tOp (rBinO K (fun C => C = CR) C (spRAddX K C U CR cs) E) (tVar 9) (tVar 8)) (tVar 4)))) D σ HF := by
  obtain ⟨dx0, gx, rx, lx, sx, ex, _, e1, hgx, ok0, hrx, _⟩ := id rule
  have l12 := ok0.most
  have o9 : ∀ {σ : L2.St} {x : Option V} {j : Nat}, j ≠ 4 → (σ.set 4 x)[j]? = σ[j]? := fun n => by rw [List.getElem?_set_ne (Ne.symm n)]
  have fin : ∀ (σ : L2.St) (b : Bool), σ[9]? = some (some (.ref q)) → σ[8]? = some (some oth) → σ[4]? = some (some (.str (wR b))) →
      (∀ H1, Same (mask p HF) H1 → ROpd K (fun C => C = CR) C H1 oth ∧ ∀ (E : XK) (Q1 : VK), (b = true → ∀ v H', Same H1 H' → Q1 v H') → (b = false → Raises H1 cs.R E) → spRAddX K C U CR cs [.ref q, oth] H1 Q1 E) →
      tRet (tOp rEq (tLam cT (TMet K cs) fun E => tOp (rBinO K (fun C => C = CR) C (spRAddX K C U CR cs) E) (tVar 9) (tVar 8)) (tVar 4)) D σ HF := fun σ b e9 e8 e4 run => by
    refine met_s (p := p) (w := wR b) dieF tabsF (fun H1 s1 E Q1 ok1 bad => ?_) (fun HG sG dieG tabsG => ⟨_, e4, rfl, ?_⟩)
    · obtain ⟨ro, sp⟩ := run H1 s1
      exact ⟨_, e9, _, e8, q, CR, _, _, rfl, rfl, s1 _ _ e1, ro, sp _ _ (fun hb => ok1 (by rw [hb]; rfl)) (fun hb H' s' => bad _ _ _ s' (by rw [hb]; exact .rule none))⟩
    · rw [decide_eq_true rfl]
      exact k _ sG dieG tabsG
  have s4 : ∀ {σ : L2.St} {x : Option V}, σ.length = 12 → (σ.set 4 x)[4]? = some x := fun l => by rw [List.getElem?_set_self (by omega)]
  have l4 : (σ.set 4 (some (V.str (Str.ofString "rule")))).length = 12 := by rw [List.length_set]; exact l
  have a9 := (o9 (σ := σ) (x := some (V.str (Str.ofString "rule"))) (j := 9) (by decide)).trans e9
  have a8 := (o9 (σ := σ) (x := some (V.str (Str.ofString "rule"))) (j := 8) (by decide)).trans e8
  have a1 := (o9 (σ := σ) (x := some (V.str (Str.ofString "rule"))) (j := 1) (by decide)).trans eg1
  have a4 := s4 (σ := σ) (x := some (V.str (Str.ofString "rule"))) l
  refine seq_go (asg_go (show gName 4 _ σ HF _ from name_go ?_))
  try dsimp only
  generalize σ.set 4 (some (V.str (Str.ofString "rule"))) = σ' at *
  have end_ : ∀ b : Bool, (∀ H1, Same (mask p HF) H1 → ROpd K (fun C => C = CR) C H1 oth ∧ ∀ (E : XK) (Q1 : VK), (b = true → ∀ v H', Same H1 H' → Q1 v H') → (b = false → Raises H1 cs.R E) → spRAddX K C U CR cs [.ref q, oth] H1 Q1 E) →
      tRet (tOp rEq (tLam cT (TMet K cs) fun E => tOp (rBinO K (fun C => C = CR) C (spRAddX K C U CR cs) E) (tVar 9) (tVar 8)) (tVar 4)) D (σ'.set 4 (some (.str (wR b)))) HF := fun b run => fin _ b ((o9 (by decide)).trans a9) ((o9 (by decide)).trans a8) (s4 l4) run
  rcases go with ⟨q3, t3, r3, rfl, rule3⟩ | ⟨kd, ok3⟩
  · obtain ⟨dx3, gx3, rx3, lx3, sx3, ex3, _, e3, hgx3, ok3, hrx3, _⟩ := id rule3
    have l3 := ok3.most
    obtain ⟨dg, eg⟩ := hg.same mask_same
    obtain ⟨dg3, eg3⟩ := hgx3.same mask_same
    refine ⟨_, a8, _, _, _, _, _, rfl, .own _, ri.ty rc.cls (mask_same _ _ e3), kit_self, _, rfl, iteT ?_⟩
    have run : ∀ b : Bool, (b = true ↔ t3 = t ∧ r0.length + r3.length ≤ 12) → ∀ H1, Same (mask p HF) H1 → ROpd K (fun C => C = CR) C H1 (.ref q3) ∧ ∀ (E : XK) (Q1 : VK), (b = true → ∀ v H', Same H1 H' → Q1 v H') → (b = false → Raises H1 cs.R E) → spRAddX K C U CR cs [.ref q, .ref q3] H1 Q1 E := fun b hb H1 s1 =>
      ⟨.inr (.inl ⟨q3, CR, _, _, rfl, rfl, s1 _ _ e3⟩), fun E Q1 y n => ⟨q, t, r0, _, rfl, rule.same s1, .inr ⟨q3, t3, r3, rfl, rule3.same s1, fun z => n (by
        cases hb' : b with
        | false => rfl
        | true => exact absurd ⟨(hb.mp hb').1.symm, (hb.mp hb').2⟩ z), fun z u H' s' => y (hb.mpr ⟨z.1.symm, z.2⟩) _ _ s'⟩⟩⟩
    refine ⟨_, a8, _, _, _, _, _, rfl, mask_same _ _ e3, rc.cls, rc.grid, rF_grid, _, a1, ?_⟩
    refine ⟨gx3, dg3, _, _, rfl, eg3, i.ty c.cls eg, nf_self, gx3, t3, _, (t3 == t), rfl, ⟨dg3, eg3⟩, .inl ⟨g, t, rfl, ⟨dg, eg⟩, rfl⟩, (t3 == t), rfl, _, rfl, ?_⟩
    by_cases et : t3 = t
    case neg =>
      rw [show (false != (t3 == t)) = false by cases t3 <;> cases t <;> first | rfl | exact absurd rfl et]
      exact iteF (iteF (end_ false (run false ⟨(fun z => nomatch z), fun z => absurd z.1 et⟩)))
    rw [show (false != (t3 == t)) = true by rw [et]; simp]
    refine iteT ⟨_, a9, len_go (rule.same mask_same) ⟨_, a8, len_go (rule3.same mask_same) ⟨_, _, rfl, rfl, _, _, rfl, rfl, _, rfl, ?_⟩⟩⟩
    by_cases hl : r0.length + r3.length ≤ 12
    · rw [decide_eq_true (show (r0.length : Int) + (r3.length : Int) ≤ 12 by omega)]
      exact iteT (end_ true (run true ⟨fun _ => ⟨et, hl⟩, fun _ => rfl⟩))
    · rw [decide_eq_false (show ¬ (r0.length : Int) + (r3.length : Int) ≤ 12 by omega)]
      exact iteF (end_ false (run false ⟨(fun z => nomatch z), fun z => absurd z.2 hl⟩))
  · refine ⟨_, a8, _, _, _, _, _, rfl, .own _, tyX_same ok3 mask_same, ri.kit kd, _, rfl, iteF ?_⟩
    exact fin _ false a9 a8 a4 fun H1 s1 => ⟨.inl ⟨kd, tyX_same ok3 s1⟩, fun E Q1 _ n => ⟨q, t, r0, _, rfl, rule.same s1, .inl ⟨⟨_, tyX_same ok3 s1, ri.kit kd⟩, n rfl⟩⟩⟩
theorem h_calls (T : TxE K mg aG dU C CR cs) (c : GCls K C) (i : GIs K C) (rc : RCls K CR) (ri : GIs K CR) (eqc : EqC K C) (MD : Df K mg "_law_met" s__law_met) (MT : MetT K mg cs) (dig : PySem.W.nsIn K cStatics "sys.int_max_str_digits" = some none)
    (TB : TabB base mg cA PA) (inT : (PA, (("_law_calls_right" : Str) ++ ".<locals>.") ++ "<lambda>") ∈ cT) (oneT : ∀ p ∈ cT, p.1 = PA → p.2 = (("_law_calls_right" : Str) ++ ".<locals>.") ++ "<lambda>")
    (h_law_pick : Has P w K mg base CX0 "_law_pick" 2 ["_law_dice_here", "_law_items"] spPick)
    (h_law_grid_word : Has P w K mg base CX0 "_law_grid_word" 3 ["_law_dice_here"] spGridWord)
    (h_law_some_row : Has P w K mg base CX0 "_law_some_row" 3 ["_law_dice_here", "_law_around", "_law_most"] (spSomeRow K))
    (hGrid : HasC P w K mg base "Grid" C 1 ["self", "name"] (spInit C U))
    (hm_rlen : HasM P w K mg base CX0 CR "__len__" 1 ["self"] (spRLen K C U CR))
    (hm_eq : HasM P w K mg base CX0 C "__eq__" 1 ["self", "other"] (spGEq K C U))
    (hm_ritem : ∀ D, D = CR → HasM P w K mg base (L2.CX P w) D "__getitem__" 2 ["self", "index"] (spRItemX K C U CR cs))
    (rfn : ∀ D f, D = CR → PySem.W.findIn K (.ref D) "__getitem__" = some (some (.ref f)) → PySem.W.fnIn K f = true)
    (hm_drawn : HasM P w K mg base (L2.CX P w) CR "drawn" 4 ["self", "direction"] (spDrawnX K C U CR cs))
    (hm_renamed : HasM P w K mg base (L2.CX P w) CR "renamed" 8 ["self", "letters"] (spRenX K C U CR cs))
    (hm_radd : ∀ D, D = CR → HasM P w K mg base (L2.CX P w) D "__add__" 8 ["self", "other"] (spRAddX K C U CR cs))
    (bk_radd : ∀ C D, C = CR → D = CR → BinK K C D .Add) (bc_radd : ∀ D, D = CR → BinC K D "add") (bg_radd : BareC K C "add") (rng : ∀ D, D = CR → D ≠ C)
    (hRule : HasGX P w K mg base (L2.CX P w) "Rule" CR 6 ["self", "grid", "items"] (spRInitX K C U CR cs)) (D : Dl K mg "_law_calls_right" s__law_calls_right cA) :
    Has P w K mg base CX0 "_law_calls_right" 17 ["_law_dice_here", "_law_grid", "_law_around"] (spPartR K C U cT) := by
  have c_drawn := rc.cls
  have c_renamed := rc.cls
  refine D.hasL sc__law_calls_right (fun vs H Q E h => ?_) (fun kV doc pm an cdv ct us hl => match us, hl with | [_, _, _], _ => rfl) (fun f A outer s H vs Q E gd hr h => ?_)
  · obtain ⟨p, g, t, rfl, _⟩ := h
    rfl
  · obtain ⟨p, g, t, rfl, die, hg, tabs, k⟩ := h
    have hu := hr.units
    refine ⟨_, (pss_cons
 (ps_set (i := 9) sc__law_calls_right.nd rfl (Or.inr rfl) (pe_makeGX hRule gd (hr.mono (by decide)) passX0 (pa_cons (pv 1) (pa_cons (pe_callH h_law_some_row gd (hr.mono (by decide)) pass0 (pa_cons (pv 0) (pa_cons (pv 2) (pa_cons pe_int pa_nil)))) pa_nil))))
 (pss_cons
 (ps_set (i := 7) sc__law_calls_right.nd rfl (Or.inr rfl) (pe_callH h_law_pick gd (hr.mono (by decide)) pass0 (pa_cons (pv 0) (pa_cons (pe_lst (pa_cons pe_int (pa_cons pe_int (pa_cons pe_int (pa_cons (pe_callB (call_lenM hm_rlen gd (hr.mono (by decide)) pass0) (by exact rfl) T.zlen PySem.boot_len (pa_cons (pv 9) pa_nil)) (pa_cons (pe_op op_sub (pe_callB (call_lenM hm_rlen gd (hr.mono (by decide)) pass0) (by exact rfl) T.zlen PySem.boot_len (pa_cons (pv 9) pa_nil)) pe_int) (pa_cons (pe_un un_neg pe_int) (pa_cons pe_non (pa_cons pe_bl (pa_cons pe_str (pa_cons (pe_tup (pa_cons pe_int pa_nil)) (pa_cons (pe_op op_pow pe_int pe_int) (pa_cons (pv 2) (pa_cons (pe_op op_sub (pv 2) pe_int) pa_nil)))))))))))))) pa_nil))))
 (pss_cons
 (ps_set (i := 3) sc__law_calls_right.nd rfl (Or.inl rfl) (pe_and (pe_callB call_isi (by exact rfl) T.zisinstance (by decide +kernel) (pa_cons (pv 7) (pa_cons (pe_bltn (v := .ty "int") (by exact rfl) T.zint (by decide +kernel) rfl) pa_nil))) (pe_and (pe_not (pe_callB call_isi (by exact rfl) T.zisinstance (by decide +kernel) (pa_cons (pv 7) (pa_cons (pe_bltn (v := .ty "bool") (by exact rfl) T.zbool (by decide +kernel) rfl) pa_nil)))) (pe_one (pe_cmpR op_ge (pv 7) pe_int (nomark _))))))
 (pss_cons
 (ps_set (i := 4) sc__law_calls_right.nd rfl (Or.inl rfl) (pe_ifExp (PW.pt (pw_and (pt_val (pv 3)) (pw_and1 (pt_cmpR op_lt (pv 7) (pe_callB (call_lenM hm_rlen gd (hr.mono (by decide)) pass0) (by exact rfl) T.zlen PySem.boot_len (pa_cons (pv 9) pa_nil)) (nomark _))))) pe_str (pe_op op_add_str pe_str (pe_callB (call_reprQ dig gd hu) (by exact rfl) T.zrepr (by decide +kernel) (pa_cons (pv 7) pa_nil)))))
 (pss_cons
 (ps_if (pt_cmpR op_ne (pe_met (k := 13) MD MT dig (by exact rfl) TB rfl inT oneT gd (hr.mono (by decide)) (show LamS (defScope s__law_calls_right) _ from lamS_by (by decide +kernel)) rfl (fun _ _ _ _ _ => rfl) (fun A outer s H E f c' gd hr => (pe_ixV (IsV := fun D => D = CR) hm_ritem gd (hr.mono (by decide)) (passes_call (takes_of rfl rfl rfl rfl) (fun _ _ _ _ e => e)) (pv 9) (pv 7) rfn))) (pv 4) (nomark _)) (pss_one
 (ps_ret pe_bl)) pss_nil)
 (pss_cons
 (ps_set (i := 4) sc__law_calls_right.nd rfl (Or.inl rfl) (pe_ifExp (PW.pt (pw_and (pt_val (pv 3)) (pw_and1 (pt_cmpR op_lt (pv 7) (pv 2) (nomark _))))) pe_str (pe_op op_add_str pe_str (pe_callB (call_reprQ dig gd hu) (by exact rfl) T.zrepr (by decide +kernel) (pa_cons (pv 7) pa_nil)))))
 (pss_cons
 (ps_if (pt_cmpR op_ne (pe_met (k := 13) MD MT dig (by exact rfl) TB rfl inT oneT gd (hr.mono (by decide)) (show LamS (defScope s__law_calls_right) _ from lamS_by (by decide +kernel)) rfl (fun _ _ _ _ _ => rfl) (fun A outer s H E f c' gd hr => (pe_methH (pv 9) c_drawn hm_drawn gd (hr.mono (by decide)) (passes_call (takes_of rfl rfl rfl rfl) (fun _ _ _ _ e => e)) (pa_cons (pv 7) pa_nil)))) (pv 4) (nomark _)) (pss_one
 (ps_ret pe_bl)) pss_nil)
 (pss_cons
 (ps_set (i := 5) sc__law_calls_right.nd rfl (Or.inl rfl) (pe_callTy (call_dictP rfl) (by exact rfl) T.zdict (by decide +kernel) (pa_cons (pe_lc (own := [("_law_name", 11)]) (g := gName 11) (tt := tYes) (by rfl) sc__law_calls_right.nd (pi_tup (pe_fld (pv 9) rfl)) (blkOk_by (own := [("_law_name", 11)]) (N := N__law_calls_right) (sc := defScope s__law_calls_right) (by decide +kernel)) (fun _ _ _ _ _ => pg_name (i := 11) sc__law_calls_right.nd rfl (Or.inl rfl)) (fun _ _ _ _ _ => pts_nil) (fun _ _ _ _ _ => (pe_tup (pa_cons (pv 11) (pa_cons pe_str pa_nil))))) pa_nil)))
 (pss_cons
 (ps_set (i := 6) sc__law_calls_right.nd rfl (Or.inl rfl) (pe_lst (pa_cons pe_non (pa_cons pe_int (pa_cons (pe_tup pa_nil) (pa_cons (pe_lst pa_nil) (pa_cons pe_dnewK (pa_cons pe_str (pa_cons (pe_callTy (call_dictP rfl) (by exact rfl) T.zdict (by decide +kernel) (pa_cons (pe_slice sl_list (LiI.pe_listItems (by exact rfl) (pv 5) (by exact rfl) T.zlist (by decide +kernel)) (po_some pe_int) po_none) pa_nil)) (pa_cons (pe_callTy (call_dictP rfl) (by exact rfl) T.zdict (by decide +kernel) (pa_cons (pe_op op_cat (LiI.pe_listItems (by exact rfl) (pv 5) (by exact rfl) T.zlist (by decide +kernel)) (pe_lst (pa_cons (pe_tup (pa_cons pe_str (pa_cons pe_str pa_nil))) pa_nil))) pa_nil)) pa_nil))))))))))
 (pss_cons
 (ps_set (i := 6) sc__law_calls_right.nd rfl (Or.inl rfl) (pe_op op_cat (pv 6) (pe_lst (pa_cons (pe_callTy (call_dictP rfl) (by exact rfl) T.zdict (by decide +kernel) (pa_cons (pe_lock (pe_lc (own := [("_law_name", 11)]) (g := gName 11) (tt := tYes) (by rfl) sc__law_calls_right.nd (pi_keys (pv 5)) (blkOk_by (own := [("_law_name", 11)]) (N := N__law_calls_right) (sc := defScope s__law_calls_right) (by decide +kernel)) (fun _ _ _ _ _ => pg_name (i := 11) sc__law_calls_right.nd rfl (Or.inl rfl)) (fun _ _ _ _ _ => pts_nil) (fun _ _ _ _ _ => (pe_tup (pa_cons (pv 11) (pa_cons pe_str pa_nil)))))) pa_nil)) (pa_cons (pe_callTy (call_dictP rfl) (by exact rfl) T.zdict (by decide +kernel) (pa_cons (pe_lock (pe_lc (own := [("_law_name", 11)]) (g := gName 11) (tt := tYes) (by rfl) sc__law_calls_right.nd (pi_keys (pv 5)) (blkOk_by (own := [("_law_name", 11)]) (N := N__law_calls_right) (sc := defScope s__law_calls_right) (by decide +kernel)) (fun _ _ _ _ _ => pg_name (i := 11) sc__law_calls_right.nd rfl (Or.inl rfl)) (fun _ _ _ _ _ => pts_nil) (fun _ _ _ _ _ => (pe_tup (pa_cons (pv 11) (pa_cons pe_non pa_nil)))))) pa_nil)) (pa_cons (pe_disp (pps_cons pe_str pe_str pps_nil) (by rfl) (by rfl) (fun z => by cases z) (by decide)) pa_nil))))))
 (pss_cons
 (ps_set (i := 10) sc__law_calls_right.nd rfl (Or.inr rfl) (pe_callH h_law_pick gd (hr.mono (by decide)) pass0 (pa_cons (pv 0) (pa_cons (pe_op op_cat (pe_op op_rep (pe_lst (pa_cons (pv 5) pa_nil)) pe_int) (pv 6)) pa_nil))))
 (pss_cons
 (ps_if (pt_cmpR op_ne (pe_met (k := 13) MD MT dig (by exact rfl) TB rfl inT oneT gd (hr.mono (by decide)) (show LamS (defScope s__law_calls_right) _ from lamS_by (by decide +kernel)) rfl (fun _ _ _ _ _ => rfl) (fun A outer s H E f c' gd hr => (pe_methH (pv 9) c_renamed hm_renamed gd (hr.mono (by decide)) (passes_call (takes_of rfl rfl rfl rfl) (fun _ _ _ _ e => e)) (pa_cons (pv 10) pa_nil)))) (pe_ifExp (pt_cmpR (op_eqDct (Nat.lt_of_le_of_lt (Nat.le_add_right _ _) hu)) (pv 10) (pv 5) (nomark _)) pe_str pe_str) (nomark _)) (pss_one
 (ps_ret pe_bl)) pss_nil)
 (pss_cons
 (ps_set (i := 8) sc__law_calls_right.nd rfl (Or.inr rfl) (pe_makeGX hRule gd (hr.mono (by decide)) passX0 (pa_cons (pe_makeH hGrid (hr.mono (by decide)) pass0 (pa_cons (pe_callH h_law_grid_word gd (hr.mono (by decide)) pass0 (pa_cons (pv 0) pa_nil)) pa_nil)) (pa_cons (pe_callH h_law_some_row gd (hr.mono (by decide)) pass0 (pa_cons (pv 0) (pa_cons pe_int (pa_cons pe_int pa_nil)))) pa_nil))))
 (pss_cons
 (ps_set (i := 8) sc__law_calls_right.nd rfl (Or.inr rfl) (pe_callH h_law_pick gd (hr.mono (by decide)) pass0 (pa_cons (pv 0) (pa_cons (pe_op op_cat (pe_op op_rep (pe_lst (pa_cons (pv 8) pa_nil)) pe_int) (pe_lst (pa_cons pe_non (pa_cons pe_int (pa_cons (pe_fld (pv 9) rfl) (pa_cons pe_str (pa_cons (pe_lst (pa_cons (pv 9) pa_nil)) pa_nil))))))) pa_nil))))
 (pss_cons
 (ps_set (i := 4) sc__law_calls_right.nd rfl (Or.inl rfl) pe_str)
 (pss_cons
 (ps_if (pt_val (pe_callB call_isi (by exact rfl) T.zisinstance (by decide +kernel) (pa_cons (pv 8) (pa_cons (pe_globV T.gRule) pa_nil)))) (pss_one
 (ps_set (i := 4) sc__law_calls_right.nd rfl (Or.inl rfl) (pe_ifExp (PW.pt (pw_and (pt_cmpR (op_eqA hm_eq gd (hr.mono (by decide)) pass0) (pe_fld (pv 8) rfl) (pv 1) (nomark _)) (pw_and1 (pt_cmpR op_le (pe_op op_add (pe_callB (call_lenM hm_rlen gd (hr.mono (by decide)) pass0) (by exact rfl) T.zlen PySem.boot_len (pa_cons (pv 9) pa_nil)) (pe_callB (call_lenM hm_rlen gd (hr.mono (by decide)) pass0) (by exact rfl) T.zlen PySem.boot_len (pa_cons (pv 8) pa_nil))) pe_int (nomark _))))) pe_str pe_str))) pss_nil)
 (pss_one
 (ps_ret (pe_cmpR op_eq (pe_met (k := 13) MD MT dig (by exact rfl) TB rfl inT oneT gd (hr.mono (by decide)) (show LamS (defScope s__law_calls_right) _ from lamS_by (by decide +kernel)) rfl (fun _ _ _ _ _ => rfl) (fun A outer s H E f c' gd hr => (pe_op (op_binO' (K0 := K) (by exact rfl) (k := 8) (op := .Add) (m := "__add__") (by decide +kernel) (by decide) hm_radd bk_radd bc_radd bg_radd rng gd (hr.mono (by decide)) (passes_call (takes_of rfl rfl rfl rfl) (fun _ _ _ _ e => e))) (pv 9) (pv 8)))) (pv 4) (nomark _)))))))))))))))))))), ?_⟩
    dsimp only [cxOf, Cx.nox]
    have nI : ∀ {M : Hp} {i : Int}, i.natAbs < 10 ^ 100 → NumV K M (.int i) := fun h => ⟨_, .int _, numD_int h⟩
    have nS : ∀ {M : Hp} {i : Int}, -13 ≤ i → i ≤ 13 → NumV K M (.int i) := fun {M i} a b => nI (Nat.lt_of_le_of_lt (show i.natAbs ≤ 13 by omega) (by decide))
    have nF : ∀ {M : Hp} {x : V} {d : PyData}, Dp K M x d → (d.showable && !d.hasDict && decide (d.depth ≤ 3) && decide (d.shown.length ≤ 31000) && PyData.strOk d.shown) = true → (∀ i, d ≠ .int i) → NumV K M x := fun h a b => ⟨_, h, numD_flat a b⟩
    -- the rule
    refine ⟨_, rfl, _, rfl, _, rfl, p, t, 12, rfl, by decide, by decide, die, fun x r0 H1 ok0 nx0 _ got1 dx => ?_⟩
    have hg1 := (gridAt_mask hg die).same (mask_got got1)
    refine nil_intro ?_
    refine mk_ruleG (hg1.same mask_same) dx ok0 fun q H2 nq s2 rule => ?_
    have die2 := die_same got1.die s2
    have tabs2 := (tabs_got tabs die got1).ext s2
    have sA := (mask_got got1).trans (mask_mono (p := p) s2)
    replace hg := hg1.same (mask_mono (p := p) s2)
    replace rule := rule_mask rule die2
    clear got1 dx hg1 nq s2 tabs die
    have l12 := ok0.most
    have t6 : (num t : Int) ≤ 6 ∧ (4 : Int) ≤ (num t : Int) := by cases t <;> decide
    have tlen : ∀ {M H : Hp} {Q : Int → Hp → Prop}, RuleAt K C U CR M q t r0 → Same M H → Q (r0.length : Int) H → ∃ a dx fs, [V.ref q] = [V.ref a] ∧ H a = some (HO.ins CR dx fs) ∧ spRLen K C U CR [V.ref a] H (fun v H' => ∃ n, v = V.int n ∧ 0 ≤ n ∧ n < 2 ^ 63 ∧ Q n H') E0 := fun rl s qq => by
      obtain ⟨dx0, gx, rx, lx, sx, ex, ys, e1, _⟩ := id rl
      exact ⟨q, _, _, rfl, s _ _ e1, q, t, r0, rfl, rl.same s, _, rfl, by omega, by omega, qq⟩
    refine ⟨_, rfl, ?_⟩
    refine tl_pick NumV.mono die2 (tl_lst NumV.mono (tn_cons NumV.mono (t1_int fun _ => nI (by decide)) (tn_cons NumV.mono (t1_int fun _ => nI (by decide)) (tn_cons NumV.mono (t1_int fun _ => nI (by decide))
      (tn_cons NumV.mono (fun H Q s k => ⟨_, rfl, tlen rule (mask_same.trans s) (k _ H same_rfl (nS (by omega) (by omega)))⟩) (tn_cons NumV.mono (fun H Q s k => ⟨_, rfl, tlen rule (mask_same.trans s) ⟨_, _, rfl, rfl, k _ H same_rfl (nS (by omega) (by omega))⟩⟩) (tn_cons NumV.mono (fun H Q s k => ⟨_, rfl, k _ H same_rfl (nI (by decide))⟩)
      (tn_cons NumV.mono (t1_non fun _ => nF .non (by decide +kernel) nofun) (tn_cons NumV.mono (t1_bl fun _ => nF (.bl _) (by decide +kernel) nofun) (tn_cons NumV.mono (t1_str fun _ => nF (.str _) (by decide +kernel) nofun) (tn_cons NumV.mono (t1_data (die_no die2) (mv_tup (ma_cons mv_int ma_nil)) fun _ _ h => nF h (by decide +kernel) nofun)
      (tn_cons NumV.mono (fun H Q s k => ⟨_, _, rfl, rfl, ⟨by decide, by decide, by decide⟩, k _ H same_rfl (nI (by decide +kernel))⟩) (tn_cons NumV.mono (fun H Q s k => ⟨_, rfl, k _ H same_rfl (nS (by omega) (by omega))⟩) (tn_cons NumV.mono (fun H Q s k => ⟨_, rfl, _, _, rfl, rfl, k _ H same_rfl (nS (by omega) (by omega))⟩) tn_nil)))))))))))))) (by decide) fun at_ H3 got3 die3 nv => ?_
    obtain ⟨d, dpm, nd⟩ := nv
    have s3 := mask_got got3
    have tabs3 := tabs_got tabs2 die2 got3
    replace hg := hg.same s3
    replace rule := rule.same s3
    replace sA := sA.trans s3
    clear s3 got3 tabs2 die2
    refine num_fine rfl (dp_same mask_same dpm) ?_
    -- []
    have word : ∀ {M : Hp} {b : Bool}, cntB d = true → ∃ i, at_ = .int i ∧ d = .int i := fun {M b} h => by
      cases dpm with
      | int i => exact ⟨i, rfl, rfl⟩
      | _ => cases h
    refine name_go ?_
    try dsimp only
    refine seq_go (asg_go ?_)
    refine tIf_go (w := .str (wN (cntB d && ltB r0.length d) d)) (fun Q1 q1 => ?_) ?_
    · refine ⟨_, rfl, _, rfl, ?_⟩
      cases hc : cntB d with
      | false =>
        rw [hc] at q1
        exact iteF (iteF (num_told rfl (dp_same mask_same dpm) nd q1))
      | true =>
        obtain ⟨i, rfl, rfl⟩ := word (M := H) (b := true) hc
        rw [hc, Bool.true_and] at q1
        refine iteT ⟨_, rfl, _, rfl, tlen rule mask_same ⟨_, _, rfl, rfl, _, rfl, ?_⟩⟩
        by_cases ci : i < (r0.length : Int)
        · rw [show ltB r0.length (.int i) = true from decide_eq_true ci] at q1
          rw [decide_eq_true ci]
          exact iteT q1
        · rw [show ltB r0.length (.int i) = false from decide_eq_false ci] at q1
          rw [decide_eq_false ci]
          exact iteF (num_told rfl (.int i) nd q1)
    obtain ⟨dx0, gx, rx, lx, sx, ex, ys, e1, hgx, _, hrx, lets, hlx, _⟩ := id rule
    refine met_s (p := p) (w := wN (cntB d && ltB r0.length d) d) die3 tabs3 (fun H1 s1 E Q1 ok1 bad => ?_) (fun H4 s4 die4 tabs4 => ?_)
    · refine ⟨_, rfl, _, rfl, q, CR, _, _, rfl, rfl, s1 _ _ e1, q, t, r0, _, _, rfl, rule.same s1, dOf (dp_same s1 dpm), fun b dx' H' s' nd' => ?_, fun b y => ?_⟩
      · rw [idx_of dpm nd] at b
        refine bad _ _ _ (s'.trans (Same.new nd')) ?_
        rw [b]
        exact .num upd_same (nd.shw (dp_same ((s1.trans s').trans (Same.new nd')) dpm))
      · rw [idx_of dpm nd] at b
        exact ok1 (by rw [b]; rfl) _ _ same_rfl
    refine ⟨_, rfl, rfl, _, rfl, if_ne rfl ?_⟩
    replace hg := hg.same s4
    replace rule := rule.same s4
    replace dpm := dp_same s4 dpm
    replace sA := sA.trans s4
    clear e1 hgx hrx hlx die3 tabs3 s4
    -- drawn
    refine nx_go ?_
    try dsimp only
    refine seq_go (asg_go ?_)
    refine tIf_go (w := .str (wN (cntB d && ltB (num t : Nat) d) d)) (fun Q1 q1 => ?_) ?_
    · refine ⟨_, rfl, _, rfl, ?_⟩
      cases hc : cntB d with
      | false =>
        rw [hc] at q1
        exact iteF (iteF (num_told rfl (dp_same mask_same dpm) nd q1))
      | true =>
        obtain ⟨i, rfl, rfl⟩ := word (M := H) (b := true) hc
        rw [hc, Bool.true_and] at q1
        refine iteT ⟨_, rfl, _, rfl, _, _, rfl, rfl, _, rfl, ?_⟩
        by_cases ci : i < (num t : Int)
        · rw [show ltB (num t : Nat) (.int i) = true from decide_eq_true ci] at q1
          rw [decide_eq_true ci]
          exact iteT q1
        · rw [show ltB (num t : Nat) (.int i) = false from decide_eq_false ci] at q1
          rw [decide_eq_false ci]
          exact iteF (num_told rfl (.int i) nd q1)
    obtain ⟨dx0, gx, rx, lx, sx, ex, _, e1, _, _, hrx, _, _, _⟩ := id rule
    refine met_s (p := p) (w := wN (cntB d && ltB (num t : Nat) d) d) die4 tabs4 (fun H1 s1 E Q1 ok1 bad => ?_) (fun H5 s5 die5 tabs5 => ?_)
    · refine ⟨_, rfl, q, _, _, rfl, s1 _ _ e1, rfl, _, rfl, q, t, r0, _, d, rfl, rule.same s1, dp_same s1 dpm, fun b dx' H' s' nd' => ?_, fun b y H' s' => ?_⟩
      · rw [turn_of nd] at b
        refine bad _ _ _ (s'.trans (Same.new nd')) ?_
        rw [b]
        exact .num upd_same (nd.shw (dp_same ((s1.trans s').trans (Same.new nd')) dpm))
      · rw [turn_of nd] at b
        exact ok1 (by rw [b]; rfl) _ _ s'
    refine ⟨_, rfl, rfl, _, rfl, if_ne rfl ?_⟩
    replace hg := hg.same s5
    replace rule := rule.same s5
    replace sA := sA.trans s5
    clear e1 hrx die4 tabs4 s5 dpm nd word
    -- renamed
    obtain ⟨ly1, ly12, nody⟩ := lets_pos ok0 lets
    have nx : (Str.ofString "x") ∉ ys := fun m => by
      obtain ⟨it, hi, e⟩ := lets_mem lets m
      exact nx0 it hi e
    obtain ⟨dx0, gx, rx, lx, sx, ex, ys', e1, _, _, hrx, lets', hlx, _⟩ := id rule
    obtain ⟨ly1', ly12', nody'⟩ := lets_pos ok0 lets'
    have nx' : (Str.ofString "x") ∉ ys' := fun m => by
      obtain ⟨it, hi, e⟩ := lets_mem lets' m
      exact nx0 it hi e
    clear lets ly1 ly12 nody nx ys
    obtain ⟨al, ns, rfl, hsn, ln⟩ := dTup hlx
    have en : ns = ys'.map V.str := dStrs' ln
    subst en
    refine nx_go ?_
    try dsimp only
    refine seq_go (asg_go ?_)
    refine tp_dict (kvs := kvZ (.str (Str.ofString "b")) ys') ?_ (kvZ_merge nody') (K := K) same_rfl (fun fd H6 s6 n6 e6 => ?_)
    · exact fun H Q s k => ⟨_, rfl, _, _, _, _, _, rfl, s _ _ (mask_same _ _ e1), rc.cls, rc.letters, rF_letters, al, rfl, ⟨_, sqT_same (sqT_same hsn mask_same) s⟩, fun D hD => lc_pairs (sqT_same (sqT_same hsn mask_same) s) (by omega) hD (fun _ => wipe1 _ _ _) (get1 (n := 12) (by simp only [List.length_set]; rfl) (by decide)) (fun _ _ _ h => h) (fun H' ps s' eD pp => k D ps H' s' hD eD pp)⟩
    have die6 := die_same die5 s6
    have tabs6 := tabs5.ext s6
    replace hg := hg.same (mask_mono (p := p) s6)
    replace rule := rule.same (mask_mono (p := p) s6)
    replace sA := sA.trans (mask_mono (p := p) s6)
    have hp6 := die_no die6
    clear die5 tabs5 s6 hsn ln hlx hrx e1
    have ed : (kvZ (.str (Str.ofString "b")) ys').drop 1 = kvZ (.str (Str.ofString "b")) (ys'.drop 1) := by unfold kvZ; exact (List.map_drop ..).symm
    have es : kvZ (.str (Str.ofString "b")) ys' ++ [((.inr (Str.ofString "x") : Key), .str (Str.ofString "b"))] = kvZ (.str (Str.ofString "b")) (ys' ++ [Str.ofString "x"]) := by unfold kvZ; rw [List.map_append]; rfl
    have tB : ∀ y : String, (Str.ofString y).length ≤ 1000 → (V.str (Str.ofString y) = .non ∨ ∃ s, V.str (Str.ofString y) = .str s ∧ s.length ≤ 1000) := fun y h => .inr ⟨_, rfl, h⟩
    refine name_go ?_
    try dsimp only
    refine seq_go (asg_go ?_)
    refine (tl_lst VG.mono (tn_cons VG.mono (t1_non fun _ => vg_data .non nofun) (tn_cons VG.mono (t1_int fun _ => vg_data (.int _) nofun) (tn_cons VG.mono (t1_data hp6 (mv_tup ma_nil) fun _ _ h => vg_data h nofun) (tn_cons VG.mono (t1_data hp6 (mv_lst ma_nil) fun _ _ h => vg_data h nofun)
      (tn_cons VG.mono (t1_dict hp6 fun M q e => vg_dict (z := .non) (zs := []) e (.inl rfl) (eq_len (by show 0 ≠ _; omega))) (tn_cons VG.mono (t1_str fun _ => vg_data (.str _) nofun)
      (tn_cons VG.mono ?d1 (tn_cons VG.mono ?d2
      tn_nil)))))))) : TL p H6 _ _ _ (VG K ys')) _ _ same_rfl fun l7 vs7 H7 s7 n7 e7 g7 c7 => ?main
    case d1 =>
      refine t1_dictP (K := K) (kvs := kvZ (.str (Str.ofString "b")) (ys'.drop 1)) hp6 ?_ (kvZ_merge (nody'.sublist (List.drop_sublist ..))) fun M q e => vg_dict e (tB "b" (by decide)) (eq_len (by rw [List.length_drop]; omega))
      rw [← ed]
      exact tp_drop (tp_items rfl e6) (by rw [kvZ_len]; exact ly1')
    case d2 =>
      refine t1_dictP (K := K) (kvs := kvZ (.str (Str.ofString "b")) (ys' ++ [Str.ofString "x"])) hp6 ?_ (kvZ_merge (List.nodup_append.mpr ⟨nody', List.pairwise_singleton _ _, fun a ha b hb e => by rw [List.mem_singleton.mp hb] at e; exact nx' (by rw [← e]; exact ha)⟩)) fun M q e => vg_dict e (tB "b" (by decide)) (eq_len (by rw [List.length_append]; show _ + 1 ≠ _; omega))
      rw [← es]
      exact tp_snoc (x := "x") (y := "b") (tp_items rfl e6) (by rw [kvZ_len]; omega)
    have die7 := die_same die6 s7
    have tabs7 := tabs6.ext s7
    replace hg := hg.same (mask_mono (p := p) s7)
    replace rule := rule.same (mask_mono (p := p) s7)
    replace sA := sA.trans (mask_mono (p := p) s7)
    replace e6 := s7 _ _ e6
    have hp7 := die_no die7
    clear die6 tabs6 s7 hp6 n6 n7
    refine name_go ?_
    try dsimp only
    refine seq_go (asg_go ?_)
    refine (tl_catL VG.mono (by rfl) e7 g7 c7 (tl_lst VG.mono (tn_cons VG.mono ?k1 (tn_cons VG.mono ?k2
      (tn_cons VG.mono ?k3 tn_nil)))) : TL p H7 _ _ _ (VG K ys')) _ _ same_rfl fun l8 vs8 H8 s8 n8 e8 g8 c8 => ?main2
    case k3 => exact fun H Q s k q nq => ⟨upd_same, [((.inr (Str.ofString "x") : Key), .str (Str.ofString "a"))], rfl, by show 1 ≤ 15; decide, k _ _ (Same.over (Same.new nq) nq _) (vg_dict (z := .str (Str.ofString "a")) (zs := [Str.ofString "x"]) (mask_at upd_same (np_ne (hpk s hp7) nq) (fun _ z => by cases z)) (tB "a" (by decide)) (eq_x nx'))⟩
    case k1 =>
      exact t1_dictP (K := K) hp7 (tp_keys (z := .str (Str.ofString "B")) rfl e6 (by omega) (fun _ => wipe1 _ _ _) (get1 (n := 12) (by simp only [List.length_set]; rfl) (by decide)) (fun _ _ _ h => h)) (kvZ_merge nody') fun M q e => vg_dict e (tB "B" (by decide)) (eq_own ly1' (.inr ⟨by decide +kernel, fun s e => by cases e; decide +kernel⟩))
    case k2 =>
      exact t1_dictP (K := K) hp7 (tp_keys (z := .non) rfl e6 (by omega) (fun _ => wipe1 _ _ _) (get1 (n := 12) (by simp only [List.length_set]; rfl) (by decide)) (fun _ _ _ h => h)) (kvZ_merge nody') fun M q e => vg_dict e (.inl rfl) (eq_own ly1' (.inr ⟨by decide +kernel, fun s e => by cases e⟩))
    have die8 := die_same die7 s8
    have tabs8 := tabs7.ext s8
    replace hg := hg.same (mask_mono (p := p) s8)
    replace rule := rule.same (mask_mono (p := p) s8)
    replace sA := sA.trans (mask_mono (p := p) s8)
    replace e6 := s8 _ _ e6
    have m6 : mask p H8 fd = some (.dK (kvZ (.str (Str.ofString "b")) ys')) := mask_at e6 (fun z => by obtain ⟨xs, q⟩ := die_lst die8; rw [z, q] at e6; cases e6) (fun _ z => by cases z)
    clear die7 tabs7 s8 hp7 n8 e7 g7 c7
    refine ⟨_, rfl, ?_⟩
    refine tl_pick VG.mono die8 (tl_catR VG.mono (tl_rep VG.mono (tl_lst VG.mono (tn_cons VG.mono (t1_var VG.mono rfl (vg_dict m6 (tB "b" (by decide)) (eq_own ly1' (.inl rfl)))) tn_nil)) 3) (by rfl) e8 g8 c8) (by decide) fun val H9 got9 die9 gv => ?_
    obtain ⟨b, renv, dv⟩ := gv
    have s9 := mask_got got9
    have tabs9 := tabs_got tabs8 die8 got9
    replace hg := hg.same s9
    replace rule := rule.same s9
    replace sA := sA.trans s9
    replace m6 := s9 _ _ m6
    clear s9 got9 tabs8 die8 e6 e8 g8 c8
    obtain ⟨dx0, gx, rx, lx, sx, ex, _, e1, _, _, _, _, _, _⟩ := id rule
    refine met_s (p := p) (w := wO b) die9 tabs9 (fun H1 s1 E Q1 ok1 bad => ?_) (fun HA sAA dieA tabsA => ?_)
    · refine ⟨_, rfl, q, _, _, rfl, s1 _ _ e1, rfl, _, rfl, q, t, r0, _, ys', b, rfl, rule.same s1, lets', renv.same s1, fun hb H' s' => ?_, fun hb q' H' s' => ok1 (by rw [hb]; rfl) _ _ s'⟩
      refine bad _ _ _ s' ?_
      rw [hb]
      exact .op none
    refine ⟨_, rfl, _, rfl, fd, _, b, rfl, mask_same _ _ (sAA _ _ m6), (dv.same sAA).same mask_same, _, rfl, if_wO ⟨rfl, _, rfl, if_ne rfl ?_⟩⟩
    replace hg := hg.same sAA
    replace rule := rule.same sAA
    replace sA := sA.trans sAA
    clear sAA e1 m6 dv renv die9 tabs9
    -- another rule
    refine nx_go ?_
    try dsimp only
    refine seq_go (asg_go ?_)
    refine ⟨_, rfl, p, rfl, dieA, fun t2 HB gotB => nil_intro (go_grid (t := t2) fun g2 HC sC gr => ?_)⟩
    have sBC := (mask_got gotB).trans (mask_mono (p := p) sC)
    have dieC := die_same gotB.die sC
    have tabsC := (tabs_got tabsA dieA gotB).ext sC
    replace hg := hg.same sBC
    replace rule := rule.same sBC
    replace sA := sA.trans sBC
    replace gr := gridAt_mask gr dieC
    clear sBC gotB sC dieA tabsA
    refine ⟨_, rfl, p, false, 12, rfl, by decide, by decide, dieC, fun x2 r2 HD ok2 _ _ gotD dx2 => ?_⟩
    refine nil_intro ?_
    refine mk_ruleG ((gr.same (mask_got gotD)).same mask_same) dx2 (rowOk_up (t := t2) ok2) fun q2 HE nq2 sE rule2 => ?_
    have sDE := (mask_got gotD).trans (mask_mono (p := p) sE)
    have dieE := die_same gotD.die sE
    have tabsE := (tabs_got tabsC dieC gotD).ext sE
    replace hg := hg.same sDE
    replace rule := rule.same sDE
    replace sA := sA.trans sDE
    replace rule2 := rule_mask rule2 dieE
    clear sDE gotD sE dieC tabsC gr dx2 nq2
    have l2 := ok2.most
    refine name_go ?_
    try dsimp only
    refine seq_go (asg_go ?_)
    have moO : MonoG (fun M x => (∃ q t2 r2, x = .ref q ∧ RuleAt K C U CR M q t2 r2) ∨ ∃ kd, Of K M x kd) := fun M M' x s h => h.imp (fun ⟨q, t2, r2, e, a⟩ => ⟨q, t2, r2, e, a.same s⟩) (fun ⟨kd, a⟩ => ⟨kd, tyX_same a s⟩)
    have hpE := die_no dieE
    refine ⟨_, rfl, ?_⟩
    refine tl_pick moO dieE (tl_cat moO (tl_rep moO (tl_lst moO (tn_cons moO (t1_var moO rfl (.inl ⟨q2, t2, r2, rfl, rule2⟩)) tn_nil)) 3)
      (tl_lst moO (tn_cons moO (t1_non fun _ => .inr ⟨_, .non⟩) (tn_cons moO (t1_int fun _ => .inr ⟨_, .int⟩) (tn_cons moO ?o1 (tn_cons moO (t1_str fun _ => .inr ⟨_, .str⟩) (tn_cons moO ?o2 tn_nil))))))) (by decide) fun oth HF gotF dieF go => ?main3
    case o1 =>
      obtain ⟨dx0, gx, rx, lx, sx, ex, _, e1, _, _, hrx, _⟩ := id rule
      exact fun H Q s k => ⟨_, rfl, _, _, _, _, _, rfl, s _ _ (mask_same _ _ e1), rc.cls, rc.row, rF_row, k _ H same_rfl (.inr ⟨_, dOf (dp_same (mask_mono s) hrx)⟩)⟩
    case o2 =>
      exact fun H Q s k => ⟨_, rfl, by show 1 ≤ sizeLine; decide, fun u nu => k _ _ (Same.new nu) (.inr ⟨_, lst_of (SqL.of (mask_at upd_same (np_ne (hpk s hpE) nu) (fun _ z => by cases z)))⟩)⟩
    have sF := mask_got gotF
    have tabsF := tabs_got tabsE dieE gotF
    replace hg := hg.same sF
    replace rule := rule.same sF
    replace sA := sA.trans sF
    clear sF gotF dieE tabsE hpE rule2 l2 ok2
    refine name_go ?_
    try dsimp only
    exact calls_end c i rc ri cs (cT := cT) hg rule go dieF tabsF rfl rfl rfl (by simp only [List.length_set]; rfl) (fun HG sG dieG tabsG => k _ (sA.trans sG) dieG tabsG)
end
end K11
namespace K11
open PySem PySem.Spec PyProof.Rows L2 GL SkE PySem.GLE LamX
abbrev s_law : Stmt := topS 52
abbrev N_law : List Str := ["_law_script", "_law_spot", "_law_dice_here", "_law_grid", "_law_due", "_law_one", "_law_text"]
theorem sc_law : FnScope N_law ["_law_script"] (defScope s_law) := ⟨rfl, rfl, rfl, by decide +kernel, rfl, by decide +kernel, by decide +kernel⟩
abbrev s_Grid_WlenW : Stmt := inClass (topS 25) 9
abbrev N_Grid_WlenW : List Str := ["self"]
theorem sc_Grid_WlenW : FnScope N_Grid_WlenW ["self"] (defScope s_Grid_WlenW) := ⟨rfl, rfl, rfl, by decide +kernel, rfl, by decide +kernel, by decide +kernel⟩
def noT (H : Hp) : Hp := fun b => match H b with | some (.tbl _) => none | x => x
theorem noT_at {H : Hp} {b : Addr} {o : HO} (e : H b = some o) (nt : ∀ ps, o ≠ .tbl ps) : noT H b = some o := by
  unfold noT
  rw [e]
  cases o <;> first | rfl | exact absurd rfl (nt _)
theorem noT_of {H : Hp} {b : Addr} {o : HO} (e : noT H b = some o) : H b = some o ∧ ∀ ps, o ≠ .tbl ps := by
  unfold noT at e
  split at e
  · cases e
  · rename_i nt
    refine ⟨e, fun ps z => ?_⟩
    subst z
    exact nt _ e
theorem noT_same {H : Hp} : Same (noT H) H := fun b o e => (noT_of e).1
theorem sqL_noT {K : PySem.W.Frag} {H : Hp} {a : Addr} {xs : List V} (h : SqL K H a xs) : SqL K (noT H) a xs := by
  rcases h with (z | ⟨o, z⟩) | z
  · exact .inl (.inl (noT_at z (fun _ z => by cases z)))
  · exact .inl (.inr ⟨o, noT_at z (fun _ z => by cases z)⟩)
  · exact .inr z
def spLaw (K : PySem.W.Frag) (cT : List (Addr × Str)) : Sp := fun vs H Q _ => ∃ (a : Addr) (ns : List Int), vs = [.ref a] ∧ SqL K H a (ns.map V.int) ∧ ns.length ≤ 63 ∧ Tabs cT H ∧ ∀ H', Q (.bl true) H'
/-- whether a text is a rule's -/
def goodT (t : Bool) (x : V) : Bool := decide (x = .str (Str.ofString "a0 a1")) || (decide (x = .str (Str.ofString "a0 a5")) && t)
def TxG (K : PySem.W.Frag) (M : Hp) (x : V) : Prop := ∃ o, Src K M x o ∧ (∀ s, scal x (.str s) = true) ∧ ∀ t, goodT t x = true ↔ ∃ r, rowS o = some r ∧ RowOk t r
theorem TxG.mono {K : PySem.W.Frag} : MonoG (TxG K) := fun _ _ _ s ⟨o, a, b, c⟩ => ⟨o, a.same s, b, c⟩
theorem row01 : rowIn (Str.ofString "a0 a1") = some [(Str.ofString "a", 0), (Str.ofString "a", 1)] := by decide +kernel
theorem row0 : rowIn (Str.ofString "a0") = some [(Str.ofString "a", 0)] := by decide +kernel
theorem row05 : rowIn (Str.ofString "a0 a5") = some [(Str.ofString "a", 0), (Str.ofString "a", 5)] := by decide +kernel
theorem rowE : rowIn (Str.ofString "") = none := by decide +kernel
theorem let_a : LetS (Str.ofString "a") = true := by decide +kernel
theorem txg_str {K : PySem.W.Frag} {M : Hp} {y : String} (l : (Str.ofString y).length ≤ 1000) (g : ∀ t, goodT t (.str (Str.ofString y)) = true ↔ ∃ r, rowIn (Str.ofString y) = some r ∧ RowOk t r) : TxG K M (.str (Str.ofString y)) := ⟨some (Str.ofString y), ⟨rfl, l⟩, fun _ => rfl, g⟩
theorem good01 (t : Bool) : goodT t (.str (Str.ofString "a0 a1")) = true ↔ ∃ r, rowIn (Str.ofString "a0 a1") = some r ∧ RowOk t r := by
  refine ⟨fun _ => ⟨_, row01, by decide, by decide, fun it h => ?_⟩, fun _ => rfl⟩
  simp only [List.mem_cons, List.not_mem_nil, or_false] at h
  rcases h with rfl | rfl
  · exact ⟨let_a, by decide, by cases t <;> decide⟩
  · exact ⟨let_a, by decide, by cases t <;> decide⟩
theorem good05 (t : Bool) : goodT t (.str (Str.ofString "a0 a5")) = true ↔ ∃ r, rowIn (Str.ofString "a0 a5") = some r ∧ RowOk t r := by
  cases t with
  | false =>
    refine ⟨fun z => absurd z (by decide +kernel), fun ⟨r, e, ok⟩ => ?_⟩
    rw [row05] at e
    cases e
    exact absurd (ok.all (Str.ofString "a", 5) (by simp)).b (by decide)
  | true =>
    refine ⟨fun _ => ⟨_, row05, by decide, by decide, fun it h => ?_⟩, fun _ => by decide +kernel⟩
    simp only [List.mem_cons, List.not_mem_nil, or_false] at h
    rcases h with rfl | rfl
    · exact ⟨let_a, by decide, by decide⟩
    · exact ⟨let_a, by decide, by decide⟩
theorem good0 (t : Bool) : goodT t (.str (Str.ofString "a0")) = true ↔ ∃ r, rowIn (Str.ofString "a0") = some r ∧ RowOk t r := by
  refine ⟨fun z => absurd z (by cases t <;> decide +kernel), fun ⟨r, e, ok⟩ => ?_⟩
  rw [row0] at e
  cases e
  exact absurd ok.two (by decide)
theorem goodE (t : Bool) : goodT t (.str (Str.ofString "")) = true ↔ ∃ r, rowIn (Str.ofString "") = some r ∧ RowOk t r := by
  refine ⟨fun z => absurd z (by cases t <;> decide +kernel), fun ⟨r, e, ok⟩ => ?_⟩
  rw [rowE] at e
  cases e
theorem txg_non {K : PySem.W.Frag} {M : Hp} : TxG K M .non := ⟨none, .inl ⟨.none, .non, rfl⟩, fun _ => rfl, fun t => ⟨fun z => absurd z (by cases t <;> decide +kernel), fun ⟨r, e, _⟩ => by cases e⟩⟩
theorem txg_int {K : PySem.W.Frag} {M : Hp} {i : Int} : TxG K M (.int i) := ⟨none, .inl ⟨.int i, .int i, rfl⟩, fun _ => rfl, fun t => ⟨fun z => absurd z (by
  unfold goodT
  rw [decide_eq_false (fun z => nomatch z), decide_eq_false (fun z => nomatch z)]
  cases t <;> decide), fun ⟨r, e, _⟩ => by cases e⟩⟩
def dueB (b g : Bool) : Str := if b = true then (if g = true then Str.ofString "" else Str.ofString "parse None") else Str.ofString "grid"
section
variable {P : Program} {w : World} {K : PySem.W.Frag} {mg : Str → Option Value} {base : Heap}
variable {aG dU C CR : Addr} {U : Bool → Addr} {us : Bool → List Addr} {cs : Cs}
variable {cT : List (Addr × Str)} {cA PA : Addr}
theorem h_len (c : GCls K C) (hU : Uni K w aG dU U us) (T : Txt K mg aG dU C CR) (D : Dm K C "__len__" "Grid.__len__" s_Grid_WlenW) : HasM P w K mg base CX0 C "__len__" 1 ["self"] (spMLen C U) := by
  refine D.has sc_Grid_WlenW (fun vs H Q E h => ?_) (fun kV doc pm an cdv ct us hl => match us, hl with | [_], _ => rfl) (fun f cdv A outer s H vs Q E gd hr h => ?_)
  · obtain ⟨g, t, rfl, _⟩ := h
    rfl
  · obtain ⟨g, t, rfl, ⟨dx, eg⟩, k⟩ := h
    refine ⟨_, (pss_one
 (ps_ret (pe_callB call_len_seq (by exact rfl) T.zlen PySem.boot_len (pa_cons (pe_fld (pv 0) rfl) pa_nil)))), ?_⟩
    refine ⟨_, rfl, _, _, _, _, _, rfl, eg, c.cls, c.units, gF_units, U t, _, rfl, .inr (hU.tup t _), ?_⟩
    rw [List.length_map, hU.len t]
    exact k

theorem fn_lam {x : Str} {st : Stmt} {N ps : List Str} {k : Nat} {sp : Sp} {f c : Addr} {oc kV doc pm ct : Value} {od an : Option Addr} {osl : Array (Option Value)} (at_ : K.lookup f = some ⟨oc, od, .func (PySem.W.fnOf x x (defArgs st) (defBody st) (defScope st) .none kV doc pm an (.ref c) ct), osl⟩) (cR : PySem.W.codeIn K (.ref c) x = true)
    (S : FnScope N ps (defScope st)) (len : ∀ vs H Q E, sp vs H Q E → vs.length = ps.length)
    (body : ∀ (A : Around) (outer : List Env) (s : Shared) (H : Hp) (vs : List V) (Q : VK) (E : XK), Gd (A.deeper (envOfC x (defScope st) s.heap.objs.size f (.ref c))) → Room k (A.deeper (envOfC x (defScope st) s.heap.objs.size f (.ref c))) → sp vs H Q E →
      ∃ t, PSs (cxOf CX0 P w K mg base N x (defScope st) f (.ref c) A outer s H E).nox (defBody st) t ∧ t { nx := fun _ H' => Q .non H', rt := Q } (start N vs) H) : FnG P w K mg base CX0 (k + 1) f (PySem.W.fnOf x x (defArgs st) (defBody st) (defScope st) .none kV doc pm an (.ref c) ct) ps sp := by
  constructor
  · exact len
  intro A outer s H args us vs Q E g room e0 bi vals asked
  have inK : K.In s.heap := e0.mod.kin.keeps (fun b o q => (e0.bs b o q).1)
  have line : s.heap.NoLimit := e0.mod.nolimit.keeps (fun b o q => (e0.bs b o q).1)
  have kinds : ∀ y ∈ ps.zip us, (defScope st).names.lookup y.1 = some .local ∨ ((defScope st).names.lookup y.1 = some .cell ∧ ((cellsFrom (s.heap.objs.size + 1) (defScope st).names []).lookup y.1).isSome = true) := by
    intro ⟨n, v⟩ hy
    cases S.par n (List.of_mem_zip hy).1 with
    | inl q => exact Or.inl q
    | inr q => exact Or.inr ⟨q, PySem.W.cellsFrom_some _ _ _ (Or.inl q)⟩
  apply codeAny_call_function room.depth (inK _ _ at_) rfl S.co S.gen rfl (PySem.W.codeRec_of inK cR)
  apply bi
  refine wpAny_newFunctionEnv_cells S.kind kinds (fun env eE s1 x1 => ?_)
  subst eE
  obtain ⟨t, rule0, q⟩ := body A outer s H vs Q E g (room.deeper _) asked
  have rule := rule0.nox
  have I0 := inv_start (CX := CX0) (E := E) S room.hd e0 (len _ _ _ _ asked) vals x1
  refine ⟨line.keeps x1.toInCall.keep, codeAny_func (wpAny_mono (rule.run [] s1 _ H _ I0 q) (fun fl s' done => ?_) (fun _ _ z => z))⟩
  cases fl with
  | ret u => obtain ⟨v, _, H', J, rv, qv⟩ := done; exact ⟨v, H', J.os, J.bare, J.base, J.hok, rv, qv⟩
  | next => obtain ⟨_, H', J, qv⟩ := done; exact ⟨V.non, H', J.os, J.bare, J.base, J.hok, rfl, qv⟩
  | brk => obtain ⟨_, _, _, z⟩ := done; exact z.elim
  | cont => obtain ⟨_, _, _, z⟩ := done; exact z.elim
theorem glen_go {H : Hp} {Q : Int → Hp → Prop} {g : Addr} {t : Bool} (h : GridAt C U H g t) (k : Q ((num t : Nat) : Int) H) : ∃ a dx fs, [V.ref g] = [V.ref a] ∧ H a = some (HO.ins C dx fs) ∧ spMLen C U [V.ref a] H (fun v H' => ∃ n, v = V.int n ∧ 0 ≤ n ∧ n < 2 ^ 63 ∧ Q n H') E0 := by
  obtain ⟨dx, e⟩ := id h
  exact ⟨g, _, _, rfl, e, g, t, rfl, h, _, rfl, by cases t <;> decide, by cases t <;> decide, k⟩
theorem law_end {p : Addr} {H : Hp} {σ : L2.St} {D : Ends} {bo t : Bool} {one x : V} (e5 : σ[5]? = some (some one)) (e6 : σ[6]? = some (some x)) (e4 : σ[4]? = some (some (.str (dueB bo (goodT t x)))))
    (hone : (bo = true ∧ ∃ g, one = .ref g ∧ GridAt C U (mask p H) g t) ∨ (bo = false ∧ NoGrid K C (mask p H) one)) (tx : TxG K (mask p H) x) (die : Die H p) (tabs : Tabs cT H)
    (k : ∀ H', Same (mask p H) (mask p H') → Die H' p → Tabs cT H' → D.nx σ H') :
    tIfS (tTest (tOp rNe (tLam cT (TMet K cs) fun E => ClX.tCMeth CR (spFromX K C U CR cs) E (tC (V.ref CR)) (tCons (tVar 5) (tCons (tVar 6) tNil))) (tVar 4))) (tRet (tC (V.bl false))) tNext D σ H := by
  obtain ⟨o, src, _, good⟩ := tx
  refine met_s (p := p) (w := dueB bo (goodT t x)) die tabs (fun H1 s1 E Q1 ok1 bad => ?_) (fun HA sA dieA tabsA => ⟨_, e4, rfl, _, rfl, if_ne rfl (k _ sA dieA tabsA)⟩)
  refine ⟨rfl, _, e5, _, e6, nil_intro ⟨one, x, o, rfl, src.same s1, ?_⟩⟩
  rcases hone with ⟨rfl, g, rfl, hg⟩ | ⟨rfl, ng⟩
  · refine .inr ⟨g, t, rfl, hg.same s1, fun n d H' s' nd => ?_, fun r e ok q H' _ s' _ => ok1 ?_ _ _ s'⟩
    · have b : goodT t x = false := by
        cases b : goodT t x with
        | false => rfl
        | true => exact absurd ((good t).mp b) n
      refine bad _ _ _ (s'.trans (Same.new nd)) ?_
      rw [b]
      have z : MetW K cs (upd H' d (.xd [("number", .non)])) (.ref cs.P) (some d) ("parse " ++ PyData.none.shown) := .parse upd_same ⟨.inl ⟨.non, rfl, rfl⟩, by simp [PyData.depth], by decide +kernel⟩
      rw [show dueB true false = ("parse " ++ PyData.none.shown : Str) by decide +kernel]
      exact z
    · rw [(good t).mpr ⟨r, e, ok⟩]
      rfl
  · exact .inl ⟨ng.same s1, bad _ _ _ same_rfl (.grid none)⟩
theorem law_ok (T : TxE K mg aG dU C CR cs) (c : GCls K C) (i : GIs K C) (MD : Df K mg "_law_met" s__law_met) (MT : MetT K mg cs) (dig : PySem.W.nsIn K cStatics "sys.int_max_str_digits" = some none)
    (TB : TabB base mg cA PA) (inT : (PA, (("law" : Str) ++ ".<locals>.") ++ "<lambda>") ∈ cT) (oneT : ∀ p ∈ cT, p.1 = PA → p.2 = (("law" : Str) ++ ".<locals>.") ++ "<lambda>")
    (h_law_dice : Has P w K mg base CX0 "_law_dice" 1 ["_law_script", "_law_spot"] (spDice K)) (h_law_pick : Has P w K mg base CX0 "_law_pick" 2 ["_law_dice_here", "_law_items"] spPick)
    (h_law_grid_word : Has P w K mg base CX0 "_law_grid_word" 3 ["_law_dice_here"] spGridWord) (hGrid : HasC P w K mg base "Grid" C 1 ["self", "name"] (spInit C U)) (hm_len : HasM P w K mg base CX0 C "__len__" 1 ["self"] (spMLen C U))
    (hm_from_text : HasCM P w K mg base (L2.CX P w) CR "from_text" 8 ["cls", "grid", "text"] (spFromX K C U CR cs))
    (h_law_rows_right : Has P w K mg base CX0 "_law_rows_right" 17 ["_law_dice_here", "_law_grid", "_law_around"] (spPartR K C U cT)) (h_law_calls_right : Has P w K mg base CX0 "_law_calls_right" 17 ["_law_dice_here", "_law_grid", "_law_around"] (spPartR K C U cT))
    {f : Addr} {oc kV doc pm ct : Value} {od an : Option Addr} {osl : Array (Option Value)} (at_ : K.lookup f = some ⟨oc, od, .func (PySem.W.fnOf "law" "law" (defArgs s_law) (defBody s_law) (defScope s_law) .none kV doc pm an (.ref cA) ct), osl⟩) (cR : PySem.W.codeIn K (.ref cA) "law" = true) :
    FnG P w K mg base CX0 18 f (PySem.W.fnOf "law" "law" (defArgs s_law) (defBody s_law) (defScope s_law) .none kV doc pm an (.ref cA) ct) ["_law_script"] (spLaw K cT) := by
  refine fn_lam at_ cR sc_law (fun vs H Q E h => ?_) (fun A outer s H vs Q E gd hr h => ?_)
  · obtain ⟨a, ns, rfl, _⟩ := h
    rfl
  · obtain ⟨a, ns, rfl, hS, hl, tb, k⟩ := h
    have hu := hr.units
    refine ⟨_, (pss_cons
 (ps_for PassesOwn.never rfl (pi_range1 (by exact rfl) T.zrange (pa_cons (pe_callB (call_max2 rfl) (by exact rfl) T.zmax (by decide +kernel) (pa_cons pe_int (pa_cons (pe_callB (call_min2 rfl) (by exact rfl) T.zmin (by decide +kernel) (pa_cons pe_int (pa_cons (pe_callB call_len_seq (by exact rfl) T.zlen PySem.boot_len (pa_cons (pv 0) pa_nil)) pa_nil))) pa_nil))) pa_nil)) (pg_name (i := 1) sc_law.nd rfl (Or.inl rfl)) (pss_cons
 (ps_set (i := 2) sc_law.nd rfl (Or.inl rfl) (pe_callH h_law_dice gd (hr.mono (by decide)) pass0 (pa_cons (pv 0) (pa_cons (pv 1) pa_nil))))
 (pss_cons
 (ps_set (i := 3) sc_law.nd rfl (Or.inl rfl) (pe_makeH hGrid (hr.mono (by decide)) pass0 (pa_cons (pe_callH h_law_grid_word gd (hr.mono (by decide)) pass0 (pa_cons (pv 2) pa_nil)) pa_nil)))
 (pss_cons
 (ps_if (PW.pt (pw_or (pt_not (pt_val (pe_callH h_law_rows_right gd (hr.mono (by decide)) pass0 (pa_cons (pv 2) (pa_cons (pv 3) (pa_cons (pe_callB (call_lenM hm_len gd (hr.mono (by decide)) pass0) (by exact rfl) T.zlen PySem.boot_len (pa_cons (pv 3) pa_nil)) pa_nil)))))) (pw_or1 (pt_not (pt_val (pe_callH h_law_calls_right gd (hr.mono (by decide)) pass0 (pa_cons (pv 2) (pa_cons (pv 3) (pa_cons (pe_callB (call_lenM hm_len gd (hr.mono (by decide)) pass0) (by exact rfl) T.zlen PySem.boot_len (pa_cons (pv 3) pa_nil)) pa_nil))))))))) (pss_one
 (ps_ret pe_bl)) pss_nil)
 (pss_cons
 (ps_set (i := 6) sc_law.nd rfl (Or.inr rfl) (pe_callH h_law_pick gd (hr.mono (by decide)) pass0 (pa_cons (pv 2) (pa_cons (pe_lst (pa_cons pe_str (pa_cons pe_str (pa_cons pe_str (pa_cons pe_str (pa_cons pe_non (pa_cons pe_int pa_nil))))))) pa_nil))))
 (pss_cons
 (ps_set (i := 5) sc_law.nd rfl (Or.inr rfl) (pe_callH h_law_pick gd (hr.mono (by decide)) pass0 (pa_cons (pv 2) (pa_cons (pe_lst (pa_cons (pv 3) (pa_cons pe_non pa_nil))) pa_nil))))
 (pss_cons
 (ps_set (i := 4) sc_law.nd rfl (Or.inl rfl) (pe_ifExp (pt_cmpR op_isN (pv 5) pe_non (nomark _)) pe_str pe_str))
 (pss_cons
 (ps_if (PW.pt (pw_and (pt_cmpR op_notN (pv 5) pe_non (nomark _)) (pw_and1 (PW.pt (pw_or (pt_cmpR op_eq (pv 6) pe_str (nomark _)) (pw_or1 (PW.pt (pw_and (pt_cmpR op_eq (pv 6) pe_str (nomark _)) (pw_and1 (pt_cmpR op_eq (pe_callB (call_lenM hm_len gd (hr.mono (by decide)) pass0) (by exact rfl) T.zlen PySem.boot_len (pa_cons (pv 3) pa_nil)) pe_int (nomark _))))))))))) (pss_one
 (ps_set (i := 4) sc_law.nd rfl (Or.inl rfl) pe_str)) pss_nil)
 (pss_one
 (ps_if (pt_cmpR op_ne (pe_met (k := 13) MD MT dig (by exact rfl) TB rfl inT oneT gd (hr.mono (by decide)) (show LamS (defScope s_law) _ from lamS_by (by decide +kernel)) rfl (fun _ _ _ _ _ => rfl) (fun A outer s H E f c' gd hr => (pe_cmethG (pe_globV T.gRule) hm_from_text gd (hr.mono (by decide)) (passes_call (takes_of rfl rfl rfl rfl) (fun _ _ _ _ e => e)) (pa_cons (pv 5) (pa_cons (pv 6) pa_nil))))) (pv 4) (nomark _)) (pss_one
 (ps_ret pe_bl)) pss_nil))))))))))
 (pss_one
 (ps_ret pe_bl))), ?_⟩
    dsimp only [cxOf, Cx.nox]
    refine ⟨_, rfl, _, _, rfl, .inl hS, _, _, rfl, _, _, rfl, ?_⟩
    generalize hz : (if (if ((ns.map V.int).length : Int) < 8 then ((ns.map V.int).length : Int) else 8) > 1 then (if ((ns.map V.int).length : Int) < 8 then ((ns.map V.int).length : Int) else 8) else 1) = z
    obtain ⟨z0, z8⟩ := few_of (k := 8) (by decide) z hz
    have hSM := sqL_noT hS
    have nt : ∀ b ps, noT H b ≠ some (.tbl ps) := fun b ps z => (noT_of z).2 ps rfl
    have sM : Same (noT H) H := noT_same
    generalize noT H = M at *
    refine ⟨z, rfl, by omega, by omega, for_range (lo := 0) (n := z.toNat) (fun i σ' H' => ∃ v1 v2 v3 v4 v5 v6, σ' = [some (.ref a), v1, v2, v3, v4, v5, v6] ∧ Same M H' ∧ Tabs cT H')
      ⟨none, none, none, none, none, none, rfl, sM, tb⟩ ?_ ?_⟩
    · rintro i' _ H0 hi ⟨v1, v2, v3, v4, v5, v6, rfl, sM0, tb0⟩
      refine ⟨_, rfl, _, rfl, a, ns, _, rfl, sqL_same hSM sM0, (by omega), fun p H1 np same die => ?_⟩
      have mp : M p = none := by
        cases e : M p with
        | none => rfl
        | some o => rw [sM0 _ _ e] at np; cases np
      have toM : ∀ {H'}, Same M H' → Same M (mask p H') := fun s b o e => mask_at (s _ _ e) (fun z => by rw [z, mp] at e; cases e) (fun ps z => nt b ps (by rw [e, z]))
      have sA := toM (sM0.trans same)
      have tabs1 := tb0.ext same
      clear same np sM0 tb0
      refine ⟨_, rfl, p, rfl, die, fun t H2 g2 => nil_intro (go_grid (t := t) fun g H3 s3 gr => ?_)⟩
      have s23 := (mask_got g2).trans (mask_mono (p := p) s3)
      have die3 := die_same g2.die s3
      have tabs3 := (tabs_got tabs1 die g2).ext s3
      replace sA := sA.trans s23
      replace gr := gridAt_mask gr die3
      clear s23 g2 s3 die tabs1
      refine ⟨_, rfl, _, rfl, _, rfl, glen_go (gr.same mask_same) ⟨p, g, t, rfl, die3, gr.same mask_same, tabs3, fun H4 s4 die4 tabs4 => ⟨true, rfl, (iteF ?_ : if (!true) = true then _ else _)⟩⟩⟩
      replace gr := gr.same s4
      replace sA := sA.trans s4
      refine ⟨_, rfl, _, rfl, _, rfl, glen_go (gr.same mask_same) ⟨p, g, t, rfl, die4, gr.same mask_same, tabs4, fun H5 s5 die5 tabs5 => ⟨true, rfl, (iteF ?_ : if (!true) = true then _ else _)⟩⟩⟩
      replace gr := gr.same s5
      replace sA := sA.trans s5
      clear die3 tabs3 die4 tabs4 s4 s5
      refine ⟨_, rfl, ?_⟩
      refine tl_pick (G := TxG K) TxG.mono die5 (tl_lst TxG.mono (tn_cons TxG.mono (t1_str fun _ => txg_str (by decide) good01) (tn_cons TxG.mono (t1_str fun _ => txg_str (by decide) good0) (tn_cons TxG.mono (t1_str fun _ => txg_str (by decide) good05) (tn_cons TxG.mono (t1_str fun _ => txg_str (by decide) goodE)
        (tn_cons TxG.mono (t1_non fun _ => txg_non) (tn_cons TxG.mono (t1_int fun _ => txg_int) tn_nil))))))) (by decide) fun x H6 got6 die6 tx => ?_
      have s6 := mask_got got6
      have tabs6 := tabs_got tabs5 die5 got6
      replace gr := gr.same s6
      replace sA := sA.trans s6
      clear s6 got6 die5 tabs5
      have moO : MonoG (fun M x => (∃ g, x = .ref g ∧ GridAt C U M g t) ∨ x = .non) := fun M M' x s h => h.imp (fun ⟨g, e, a⟩ => ⟨g, e, a.same s⟩) id
      refine ⟨_, rfl, ?_⟩
      refine tl_pick moO die6 (tl_lst moO (tn_cons moO (t1_var moO rfl (.inl ⟨g, rfl, gr⟩)) (tn_cons moO (t1_non fun _ => .inr rfl) tn_nil))) (by decide) fun one H7 got7 die7 go => ?_
      have s7 := mask_got got7
      have tabs7 := tabs_got tabs6 die6 got7
      replace gr := gr.same s7
      replace tx := TxG.mono _ _ _ s7 tx
      replace sA := sA.trans s7
      clear s7 got7 die6 tabs6
      obtain ⟨o, src, sc, good⟩ := id tx
      have done : ∀ (v4 : Option V) (H' : Hp), Same (mask p H7) (mask p H') → Die H' p → Tabs cT H' → ∃ v1 v2 v3 v4' v5 v6, [some (V.ref a), some (V.int (0 + (i' : Int))), some (V.ref p), some (V.ref g), v4, some one, some x] = [some (.ref a), v1, v2, v3, v4', v5, v6] ∧ Same M H' ∧ Tabs cT H' := fun v4 H' s' _ tb' => ⟨_, _, _, _, _, _, rfl, (sA.trans s').trans mask_same, tb'⟩
      rcases go with ⟨g', rfl, hg'⟩ | rfl
      · refine ⟨_, rfl, rfl, _, rfl, iteF ?_⟩
        refine ⟨_, rfl, rfl, _, rfl, iteT ?_⟩
        refine ⟨_, rfl, sc _, _, rfl, ?_⟩
        by_cases b1 : x = .str (Str.ofString "a0 a1")
        · rw [decide_eq_true b1]
          refine iteT (iteT ?_)
          exact law_end (bo := true) (t := t) rfl rfl (by rw [show goodT t x = true by rw [b1]; rfl]; rfl) (.inl ⟨rfl, g', rfl, hg'⟩) tx die7 tabs7 (done _)
        rw [decide_eq_false b1]
        refine iteF ⟨_, rfl, sc _, _, rfl, ?_⟩
        by_cases b5 : x = .str (Str.ofString "a0 a5")
        case neg =>
          rw [decide_eq_false b5]
          refine iteF (iteF ?_)
          exact law_end (bo := true) (t := t) rfl rfl (by rw [show goodT t x = false by unfold goodT; rw [decide_eq_false b1, decide_eq_false b5]; rfl]; rfl) (.inl ⟨rfl, g', rfl, hg'⟩) tx die7 tabs7 (done _)
        rw [decide_eq_true b5]
        refine iteT ⟨_, rfl, glen_go (gr.same mask_same) ⟨rfl, _, rfl, ?_⟩⟩
        have gt : goodT t x = t := by unfold goodT; rw [decide_eq_false b1, decide_eq_true b5]; rfl
        cases t with
        | true => exact iteT (law_end (bo := true) (t := true) rfl rfl (by rw [gt]; rfl) (.inl ⟨rfl, g', rfl, hg'⟩) tx die7 tabs7 (done _))
        | false => exact iteF (law_end (bo := true) (t := false) rfl rfl (by rw [gt]; rfl) (.inl ⟨rfl, g', rfl, hg'⟩) tx die7 tabs7 (done _))
      · refine ⟨_, rfl, rfl, _, rfl, iteT ?_⟩
        refine ⟨_, rfl, rfl, _, rfl, iteF (iteF ?_)⟩
        exact law_end (bo := false) (t := t) rfl rfl rfl (.inr ⟨rfl, noGrid_kind i .non⟩) tx die7 tabs7 (done _)
    rintro _ H1 ⟨v1, v2, v3, v4, v5, v6, rfl, _, _⟩
    exact k _
end
end K11
namespace K11
open PySem PySem.Spec PyProof.Rows L2 GL SkE PySem.GLE LamX
theorem cd_mk {K : PySem.W.Frag} {c P : Addr} {vs : Array Value} {d : Option Addr} {sl : Array (Option Value)} (l : K.lookup c = some ⟨.type "code", d, .fields vs, sl⟩) (e : vs[11]? = some (.ref P)) (h : PySem.W.codeHdIn K c P = true) : PySem.W.codeHdIn K c P = true := h
def lamN (x : Str) : Str := (x ++ ".<locals>.") ++ "<lambda>"
def cTof (T1 T2 T3 : Addr) : List (Addr × Str) := [(T1, lamN "_law_rows_right"), (T2, lamN "_law_calls_right"), (T3, lamN "law")]
theorem bare_mk {K : PySem.W.Frag} {D : Addr} {nm : String} {cd : ClassData} {m r : Str} (c : PySem.W.clsIn K D = some cd) (o : cd.mro = [.ref D, .type "object"]) (a : PySem.W.findIn K (.ref D) m = some none) (b : PySem.W.findIn K (.ref D) r = some none) (hm : PySem.dunder nm = m) (hr : dunderR nm = r) : BareC K D nm := ⟨⟨cd, c, o⟩, by rw [hm]; exact a, by rw [hr]; exact b⟩
theorem dcm_mk {K : PySem.W.Frag} {C f p : Addr} {m qual : Str} {st : Stmt} {oc : Value} {rest : List Value} {od an : Option Addr} {osl : Array (Option Value)} {kV doc pm cdv ct : Value} (rd : PySem.W.readsIn K C (.type "type") = true) (ga : PySem.W.specialIn K (.ref C) "__getattribute__" = some (some (.builtin "type.__getattribute__")))
    (a : PySem.W.findCls K (.ref C) (.type "type") m = some (.get (.builtin "classmethod.__get__") (.ref p) .none (.ref C))) (rc : PySem.W.recIn K p "classmethod" = some (.ref f :: rest)) (fi : PySem.W.fnIn K f = true)
    (l : K.lookup f = some ⟨oc, od, .func (PySem.W.fnOf m qual (defArgs st) (defBody st) (defScope st) .none kV doc pm an cdv ct), osl⟩) (c : PySem.W.codeIn K cdv qual = true) (k : PySem.W.keepIn K (.ref f) = true) : Dcm K C m qual st :=
  ⟨f, _, _, p, fun_mk l c k, ⟨rd, ga⟩, ⟨a, ⟨rest, rc⟩, fi⟩⟩
theorem all_mk {l : PySem.W.OpenLaw} {P : Program} {w : World} {K : PySem.W.Frag} {h : Heap} {mg : Str → Option Value} {fa : Addr} {aG dU C CR aS aT s0 s1 s2 s3 t0 t1 t2 t3 t4 t5 eG eR eO eP eN iP iN c1 T1 c2 T2 c3 T3 : Addr} (X : K.In h) (G : h.Ns mainGlobals mg) (hfa : mg "law" = some (.ref fa))
    (z0 : PySem.W.nsIn K mainGlobals "isinstance" = some none)
    (z1 : PySem.W.nsIn K mainGlobals "bool" = some none)
    (z2 : PySem.W.nsIn K mainGlobals "int" = some none)
    (z3 : PySem.W.nsIn K mainGlobals "str" = some none)
    (z4 : PySem.W.nsIn K mainGlobals "tuple" = some none)
    (z5 : PySem.W.nsIn K mainGlobals "list" = some none)
    (z6 : PySem.W.nsIn K mainGlobals "dict" = some none)
    (z7 : PySem.W.nsIn K mainGlobals "set" = some none)
    (z8 : PySem.W.nsIn K mainGlobals "sorted" = some none)
    (z9 : PySem.W.nsIn K mainGlobals "all" = some none)
    (z10 : PySem.W.nsIn K mainGlobals "len" = some none)
    (z11 : PySem.W.nsIn K mainGlobals "max" = some none)
    (z12 : PySem.W.nsIn K mainGlobals "min" = some none)
    (z13 : PySem.W.nsIn K mainGlobals "abs" = some none)
    (z14 : PySem.W.nsIn K mainGlobals "range" = some none)
    (z15 : PySem.W.nsIn K mainGlobals "repr" = some none)
    (z16 : PySem.W.nsIn K mainGlobals "iter" = some none)
    (dig : PySem.W.nsIn K cStatics "sys.int_max_str_digits" = some none)
    (nGRIDS : PySem.W.nsIn K mainGlobals "GRIDS" = some (some (.ref aG)))
    (n_UNITS : PySem.W.nsIn K mainGlobals "_UNITS" = some (some (.ref dU)))
    (nGrid : PySem.W.nsIn K mainGlobals "Grid" = some (some (.ref C)))
    (nRule : PySem.W.nsIn K mainGlobals "Rule" = some (some (.ref CR)))
    (c : GCls K C)
    (tg : TupK K aG [.str "square", .str "triangle"])
    (kS : KDct K w dU "square" (.ref aS))
    (kT : KDct K w dU "triangle" (.ref aT))
    (tS : TupK K aS [.ref s0, .ref s1, .ref s2, .ref s3])
    (tT : TupK K aT [.ref t0, .ref t1, .ref t2, .ref t3, .ref t4, .ref t5])
    (p0 : TupK K s0 [.int 1, .int 0])
    (p1 : TupK K s1 [.int 0, .int 1])
    (p2 : TupK K s2 [.int (-1), .int 0])
    (p3 : TupK K s3 [.int 0, .int (-1)])
    (q0 : TupK K t0 [.int 1, .int 0])
    (q1 : TupK K t1 [.int 0, .int 1])
    (q2 : TupK K t2 [.int (-1), .int 1])
    (q3 : TupK K t3 [.int (-1), .int 0])
    (q4 : TupK K t4 [.int 0, .int (-1)])
    (q5 : TupK K t5 [.int 1, .int (-1)])
    (di : Dc K C "Grid.__init__" s_Grid_WinitW)
    (gi : GIs K C)
    (m0 : Dm K C "__eq__" "Grid.__eq__" s_Grid_WeqW)
    (m1 : Dm K C "__len__" "Grid.__len__" s_Grid_WlenW)
    (rc : RCls K CR)
    (ri : GIs K CR)
    (dri : Dc K CR "Rule.__init__" s_Rule_WinitW)
    (r0 : Dm K CR "__len__" "Rule.__len__" s_Rule_WlenW)
    (r1 : Dm K CR "__getitem__" "Rule.__getitem__" s_Rule_WgetitemW)
    (r2 : Dm K CR "drawn" "Rule.drawn" s_Rule_drawn)
    (r3 : Dm K CR "renamed" "Rule.renamed" s_Rule_renamed)
    (r4 : Dm K CR "__add__" "Rule.__add__" s_Rule_WaddW)
    (sf : PySem.W.selfFirst K CR = true)
    (fa_ : ∃ f : Addr, PySem.W.findIn K (.ref CR) "__add__" = some (some (.ref f)))
    (fr : PySem.W.findIn K (.ref CR) "__radd__" = some none)
    (bg : BareC K C "add")
    (nRG : CR ≠ C)
    (vf : ∃ f : Addr, PySem.W.findIn K (.ref CR) "__getitem__" = some (some (.ref f)) ∧ PySem.W.fnIn K f = true)
    (cm : Dcm K CR "from_text" "Rule.from_text" s_Rule_from_text)
    (neG : PySem.W.nsIn K mainGlobals "InvalidGrid" = some (some (.ref eG)))
    (qeG : PySem.W.excIn K eG [.type "ValueError", .type "Exception", .type "BaseException", .type "object"] "ValueError.__new__" = true)
    (keG : PySem.W.keepIn K (.ref eG) = true)
    (beG : PySem.W.subIn K (.ref eG) (.type "BaseException") = some true)
    (teG : PySem.W.typeIn K (.ref eG) = some (.type "type"))
    (neR : PySem.W.nsIn K mainGlobals "InvalidRule" = some (some (.ref eR)))
    (qeR : PySem.W.excIn K eR [.type "ValueError", .type "Exception", .type "BaseException", .type "object"] "ValueError.__new__" = true)
    (keR : PySem.W.keepIn K (.ref eR) = true)
    (beR : PySem.W.subIn K (.ref eR) (.type "BaseException") = some true)
    (teR : PySem.W.typeIn K (.ref eR) = some (.type "type"))
    (neO : PySem.W.nsIn K mainGlobals "InvalidOperation" = some (some (.ref eO)))
    (qeO : PySem.W.excIn K eO [.type "ValueError", .type "Exception", .type "BaseException", .type "object"] "ValueError.__new__" = true)
    (keO : PySem.W.keepIn K (.ref eO) = true)
    (beO : PySem.W.subIn K (.ref eO) (.type "BaseException") = some true)
    (teO : PySem.W.typeIn K (.ref eO) = some (.type "type"))
    (xP : ErrTxt K mg "ParseError" "number" eP iP)
    (xN : ErrTxt K mg "InvalidNumber" "value" eN iN)
    (yGG : PySem.W.exmOne K (.ref eG) (.ref eG) = some true)
    (yGR : PySem.W.exmOne K (.ref eG) (.ref eR) = some false)
    (yGO : PySem.W.exmOne K (.ref eG) (.ref eO) = some false)
    (yGP : PySem.W.exmOne K (.ref eG) (.ref eP) = some false)
    (yGN : PySem.W.exmOne K (.ref eG) (.ref eN) = some false)
    (yRG : PySem.W.exmOne K (.ref eR) (.ref eG) = some false)
    (yRR : PySem.W.exmOne K (.ref eR) (.ref eR) = some true)
    (yRO : PySem.W.exmOne K (.ref eR) (.ref eO) = some false)
    (yRP : PySem.W.exmOne K (.ref eR) (.ref eP) = some false)
    (yRN : PySem.W.exmOne K (.ref eR) (.ref eN) = some false)
    (yOG : PySem.W.exmOne K (.ref eO) (.ref eG) = some false)
    (yOR : PySem.W.exmOne K (.ref eO) (.ref eR) = some false)
    (yOO : PySem.W.exmOne K (.ref eO) (.ref eO) = some true)
    (yOP : PySem.W.exmOne K (.ref eO) (.ref eP) = some false)
    (yON : PySem.W.exmOne K (.ref eO) (.ref eN) = some false)
    (yPG : PySem.W.exmOne K (.ref eP) (.ref eG) = some false)
    (yPR : PySem.W.exmOne K (.ref eP) (.ref eR) = some false)
    (yPO : PySem.W.exmOne K (.ref eP) (.ref eO) = some false)
    (yPP : PySem.W.exmOne K (.ref eP) (.ref eP) = some true)
    (yPN : PySem.W.exmOne K (.ref eP) (.ref eN) = some false)
    (yNG : PySem.W.exmOne K (.ref eN) (.ref eG) = some false)
    (yNR : PySem.W.exmOne K (.ref eN) (.ref eR) = some false)
    (yNO : PySem.W.exmOne K (.ref eN) (.ref eO) = some false)
    (yNP : PySem.W.exmOne K (.ref eN) (.ref eP) = some false)
    (yNN : PySem.W.exmOne K (.ref eN) (.ref eN) = some true)
    (nd : [eG, eR, eO, eP, eN].Nodup)
    (g0 : ∃ u, PySem.W.nsIn K mainGlobals "_BOUND" = some (some u) ∧ RelV (.int B) u)
    (g1 : ∃ u, PySem.W.nsIn K mainGlobals "_TURNS" = some (some u) ∧ RelV (.str "012345") u)
    (g2 : ∃ u, PySem.W.nsIn K mainGlobals "LETTERS" = some (some u) ∧ RelV (.str "abcdefghijklmnopqrstuvwxyz") u)
    (g3 : ∃ u, PySem.W.nsIn K mainGlobals "MIN_ITEMS" = some (some u) ∧ RelV (.int 2) u)
    (g4 : ∃ u, PySem.W.nsIn K mainGlobals "MAX_ITEMS" = some (some u) ∧ RelV (.int 12) u)
    (d0 : Df K mg "is_integer" s_is_integer)
    (d1 : Df K mg "is_count" s_is_count)
    (d2 : Df K mg "is_letter" s_is_letter)
    (d3 : Df K mg "plus" s_plus)
    (d4 : Df K mg "trail" s_trail)
    (d5 : Df K mg "_check_grid" s__check_grid)
    (d6 : Df K mg "is_turn" s_is_turn)
    (d7 : Df K mg "is_item" s_is_item)
    (d8 : Df K mg "is_row" s_is_row)
    (d9 : Df K mg "is_renaming" s_is_renaming)
    (d10 : Df K mg "row_text" s_row_text)
    (d11 : Df K mg "_is_item_text" s__is_item_text)
    (d12 : Df K mg "row_in" s_row_in)
    (d13 : Df K mg "write_row" s_write_row)
    (d14 : Df K mg "_law_dice" s__law_dice)
    (d15 : Df K mg "_law_roll" s__law_roll)
    (d16 : Df K mg "_law_pick" s__law_pick)
    (d17 : Df K mg "_law_grid_word" s__law_grid_word)
    (d18 : Df K mg "_law_some_row" s__law_some_row)
    (d19 : Df K mg "_law_is_row" s__law_is_row)
    (d20 : Df K mg "_law_met" s__law_met)
    (d21 : Df K mg "_law_first" s__law_first)
    (d22 : Df K mg "_law_some_value" s__law_some_value)
    (l1 : Dl K mg "_law_rows_right" s__law_rows_right c1)
    (l2 : Dl K mg "_law_calls_right" s__law_calls_right c2)
    (l3 : Dl K mg "law" s_law c3)
    (h1 : PySem.W.codeHdIn K c1 T1 = true)
    (h2 : PySem.W.codeHdIn K c2 T2 = true)
    (h3 : PySem.W.codeHdIn K c3 T3 = true)
    (nT : [T1, T2, T3].Nodup)
    (f1 : K.lookup T1 = none)
    (f2 : K.lookup T2 = none)
    (f3 : K.lookup T3 = none)
    (e1 : h.get? T1 = some { cls := .none, data := .fields #[] })
    (e2 : h.get? T2 = some { cls := .none, data := .fields #[] })
    (e3 : h.get? T3 = some { cls := .none, data := .fields #[] })
    (lp : l.prog = P) : LawTab l w K CX0 18 63 "_law_script" mg fa h := by
  have T : TxE K mg aG dU C CR ⟨eG, eR, eO, eP, eN, iP, iN⟩ := ⟨⟨PySem.W.mg_none_of X G z0, PySem.W.mg_none_of X G z1, PySem.W.mg_none_of X G z2, PySem.W.mg_none_of X G z3, PySem.W.mg_none_of X G z4, PySem.W.mg_none_of X G z5, PySem.W.mg_none_of X G z6, PySem.W.mg_none_of X G z7, PySem.W.mg_none_of X G z8, PySem.W.mg_none_of X G z9, PySem.W.mg_none_of X G z10, PySem.W.mg_none_of X G z11, PySem.W.mg_none_of X G z12, PySem.W.mg_none_of X G z13, PySem.W.mg_none_of X G z14, PySem.W.mg_none_of X G z15, PySem.W.mg_none_of X G z16, (let ⟨u, a, r⟩ := g0; ⟨u, PySem.W.mg_of X G a, r⟩), (let ⟨u, a, r⟩ := g1; ⟨u, PySem.W.mg_of X G a, r⟩), (let ⟨u, a, r⟩ := g2; ⟨u, PySem.W.mg_of X G a, r⟩), (let ⟨u, a, r⟩ := g3; ⟨u, PySem.W.mg_of X G a, r⟩), (let ⟨u, a, r⟩ := g4; ⟨u, PySem.W.mg_of X G a, r⟩), ⟨_, PySem.W.mg_of X G nGRIDS, rfl⟩, ⟨_, PySem.W.mg_of X G n_UNITS, rfl⟩, ⟨_, PySem.W.mg_of X G nGrid, rfl⟩, ⟨_, PySem.W.mg_of X G nRule, rfl⟩⟩, ⟨qeG, PySem.W.mg_of X G neG, keG, beG, teG⟩, ⟨qeR, PySem.W.mg_of X G neR, keR, beR, teR⟩, ⟨qeO, PySem.W.mg_of X G neO, keO, beO, teO⟩, xP, xN⟩
  have T0 := T.toTxt
  have nd' := nd
  simp only [List.nodup_cons, List.mem_cons, List.not_mem_nil, or_false, not_or] at nd'
  obtain ⟨⟨nGR, nGO, nGP, nGN⟩, ⟨nRO, nRP, nRN⟩, ⟨nOP, nON⟩, nPN, _⟩ := nd'
  have MT : MetT K mg ⟨eG, eR, eO, eP, eN, iP, iN⟩ := by
    refine ⟨T0.zrepr, PySem.W.mg_of X G neG, PySem.W.mg_of X G neR, PySem.W.mg_of X G neO, xP, xN, fun D hD D' hD' => ?_, nd⟩
    simp only [List.mem_cons, List.not_mem_nil, or_false] at hD hD'
    rcases hD with rfl | rfl | rfl | rfl | rfl
    · rcases hD' with rfl | rfl | rfl | rfl | rfl
      · rw [yGG, decide_eq_true rfl]
      · rw [yGR, decide_eq_false nGR]
      · rw [yGO, decide_eq_false nGO]
      · rw [yGP, decide_eq_false nGP]
      · rw [yGN, decide_eq_false nGN]
    · rcases hD' with rfl | rfl | rfl | rfl | rfl
      · rw [yRG, decide_eq_false (Ne.symm nGR)]
      · rw [yRR, decide_eq_true rfl]
      · rw [yRO, decide_eq_false nRO]
      · rw [yRP, decide_eq_false nRP]
      · rw [yRN, decide_eq_false nRN]
    · rcases hD' with rfl | rfl | rfl | rfl | rfl
      · rw [yOG, decide_eq_false (Ne.symm nGO)]
      · rw [yOR, decide_eq_false (Ne.symm nRO)]
      · rw [yOO, decide_eq_true rfl]
      · rw [yOP, decide_eq_false nOP]
      · rw [yON, decide_eq_false nON]
    · rcases hD' with rfl | rfl | rfl | rfl | rfl
      · rw [yPG, decide_eq_false (Ne.symm nGP)]
      · rw [yPR, decide_eq_false (Ne.symm nRP)]
      · rw [yPO, decide_eq_false (Ne.symm nOP)]
      · rw [yPP, decide_eq_true rfl]
      · rw [yPN, decide_eq_false nPN]
    · rcases hD' with rfl | rfl | rfl | rfl | rfl
      · rw [yNG, decide_eq_false (Ne.symm nGN)]
      · rw [yNR, decide_eq_false (Ne.symm nRN)]
      · rw [yNO, decide_eq_false (Ne.symm nON)]
      · rw [yNP, decide_eq_false (Ne.symm nPN)]
      · rw [yNN, decide_eq_true rfl]
  have hU := uni_mk (w := w) tg kS kT tS tT p0 p1 p2 p3 q0 q1 q2 q3 q4 q5
  obtain ⟨f, oc, kV, doc, pm, ct, od, an, osl, at_, cR, kp, m'⟩ := l3.ex
  rw [hfa] at m'
  cases m'
  have nT' := nT
  simp only [List.nodup_cons, List.mem_cons, List.not_mem_nil, or_false, not_or] at nT'
  obtain ⟨⟨n12, n13⟩, n23, _⟩ := nT'
  have all3 : ∀ {Pr : Addr × Addr → Prop}, Pr (c1, T1) → Pr (c2, T2) → Pr (c3, T3) → ∀ p ∈ [(c1, T1), (c2, T2), (c3, T3)], Pr p := fun a b c p hp => by
    simp only [List.mem_cons, List.not_mem_nil, or_false] at hp
    rcases hp with rfl | rfl | rfl
    · exact a
    · exact b
    · exact c
  refine ⟨PySem.W.fnOf "law" "law" (defArgs s_law) (defBody s_law) (defScope s_law) .none kV doc pm an (.ref c3) ct, [(c1, T1), (c2, T2), (c3, T3)], spLaw K (cTof T1 T2 T3), all3 (Pr := fun p => h.get? p.2 = some { cls := .none, data := .fields #[] }) e1 e2 e3, all3 (Pr := fun p => K.lookup p.2 = none) f1 f2 f3, all3 (Pr := fun p => PySem.W.CodeHd h p.1 p.2) (PySem.W.codeHd_of_K X h1) (PySem.W.codeHd_of_K X h2) (PySem.W.codeHd_of_K X h3),
    fun s u => .of_eq rfl, fun H a ns few _ tb hS => ⟨a, ns, rfl, hS, few, ?_, fun _ => rfl⟩, fun base kin hns TBs => ?fn⟩
  · intro q hq
    have z1 := TabS.nil (q := lamN "_law_rows_right") (tb (c1, T1) (by simp))
    have z2 := TabS.nil (q := lamN "_law_calls_right") (tb (c2, T2) (by simp))
    have z3 := TabS.nil (q := lamN "law") (tb (c3, T3) (by simp))
    simp only [cTof, List.mem_cons, List.not_mem_nil, or_false] at hq
    rcases hq with rfl | rfl | rfl
    · exact z1
    · exact z2
    · exact z3
  rw [lp]
  have tb1 := TBs (c1, T1) (by simp)
  have tb2 := TBs (c2, T2) (by simp)
  have tb3 := TBs (c3, T3) (by simp)
  have one : ∀ p ∈ cTof T1 T2 T3, (p.1 = T1 → p.2 = lamN "_law_rows_right") ∧ (p.1 = T2 → p.2 = lamN "_law_calls_right") ∧ (p.1 = T3 → p.2 = lamN "law") := by
    intro p hp
    simp only [cTof, List.mem_cons, List.not_mem_nil, or_false] at hp
    rcases hp with rfl | rfl | rfl
    · exact ⟨fun _ => rfl, fun z => absurd z n12, fun z => absurd z n13⟩
    · exact ⟨fun z => absurd z.symm n12, fun _ => rfl, fun z => absurd z n23⟩
    · exact ⟨fun z => absurd z.symm n13, fun z => absurd z.symm n23, fun _ => rfl⟩
  have rfn : ∀ D f, D = CR → PySem.W.findIn K (.ref D) "__getitem__" = some (some (.ref f)) → PySem.W.fnIn K f = true := fun D f d e => by
    subst d
    obtain ⟨g, h1, h2⟩ := vf
    rw [h1] at e
    cases e
    exact h2
  have hi := h_is_integer (P := P) (w := w) (base := base) T0 d0
  have hc := h_is_count d1 hi
  have hl := h_is_letter (P := P) (w := w) (base := base) T0 d2
  have hcg := h_check_grid (P := P) (w := w) (base := base) (U := fun t => cond t aT aS) T0 c gi d5
  have ht := h_is_turn c hU T0 d6 hc
  have hit := h_is_item T0 d7 hcg hl ht
  have hrow := h_is_row T0 d8 hcg hc hit
  have hplus := h_plus (P := P) (w := w) (base := base) d3
  have htrail := h_trail c hU d4 hplus
  have mGrid := h_init (P := P) (w := w) (base := base) T0 hU c di (PySem.W.mg_of X G nGrid)
  have mRule := h_rinit T0 rc dri hcg hrow htrail (PySem.W.mg_of X G nRule)
  have hrt := h_row_text (P := P) (w := w) (base := base) T0 d10
  have hitt := h_is_item_text T0 d11 hl
  have hri := h_row_in T0 d12 hitt
  have hcgX := h_check_gridX (P := P) (w := w) (base := base) (U := fun t => cond t aT aS) T c gi d5
  have hitX := h_is_itemX T d7 hcgX hl ht
  have hrowX := h_is_rowX T d8 hcgX hc hit
  have mRuleX := h_rinitX T rc dri hcgX hrowX htrail (PySem.W.mg_of X G nRule)
  have hwrX := h_write_rowX T d13 mGrid hrowX hrt
  have mcm := h_from_textX T cm hcgX hri hrowX mRule
  have mdr := h_drawnX T c hU rc r2 ht
  have mit := h_ritemX (P := P) (w := w) (base := base) (U := fun t => cond t aT aS) T rc r1 hi
  have hrenX := h_is_renX T d9 hl
  have mre := h_renamedX T rc r3 hrenX mRule
  have mlen := h_rlen (P := P) (w := w) (base := base) (U := fun t => cond t aT aS) T0 rc r0
  have geq := h_geq (P := P) (w := w) (base := base) (U := fun t => cond t aT aS) c gi T0 m0
  have mglen := h_len (P := P) (w := w) (base := base) c hU T0 m1
  have madd := h_raddX c gi rc ri T gi.eq r4 geq mRuleX
  have hadd : ∀ D, D = CR → HasM P w K mg base (L2.CX P w) D "__add__" 8 ["self", "other"] (spRAddX K C (fun t => cond t aT aS) CR ⟨eG, eR, eO, eP, eN, iP, iN⟩) := fun D e => by rw [e]; exact madd
  have hitem : ∀ D, D = CR → HasM P w K mg base (L2.CX P w) D "__getitem__" 2 ["self", "index"] (spRItemX K C (fun t => cond t aT aS) CR ⟨eG, eR, eO, eP, eN, iP, iN⟩) := fun D e => by rw [e]; exact mit
  have bk : ∀ C D, C = CR → D = CR → BinK K C D .Add := fun C D h1 h2 => .same (h1.trans h2.symm) (by rw [h1]; exact sf)
  have bc : ∀ D, D = CR → BinC K D "add" := fun D e => by rw [e]; exact ⟨sf, by rw [show PySem.dunder "add" = ("__add__" : Str) by decide +kernel]; exact fa_, by rw [show dunderR "add" = ("__radd__" : Str) by decide +kernel]; exact fr⟩
  have hdice := h_law_dice (P := P) (w := w) (base := base) T0 d14
  have hroll := h_law_roll (P := P) (w := w) (base := base) T0 d15
  have hpick := h_law_pick T0 d16 hroll
  have hword := h_law_grid_word d17 hpick
  have hsome := h_law_some_row T0 d18 hpick hroll
  have hlir := h_law_is_row (P := P) (w := w) (base := base) T0 d19
  have hfirst := h_law_first (P := P) (w := w) (base := base) T0 d21
  have hsv := h_law_some_value T0 d22 hpick hsome
  have hrows := h_rows T c gi rc d20 MT dig tb1 (cT := cTof T1 T2 T3) (by simp [cTof, lamN]) (fun p hp => (one p hp).1) hpick hsv hlir hfirst hrowX hitX hwrX mRuleX l1
  have hcalls := h_calls T c gi rc ri gi.eq d20 MT dig tb2 (cT := cTof T1 T2 T3) (by simp [cTof, lamN]) (fun p hp => (one p hp).2.1) hpick hword hsome mGrid mlen geq hitem rfn mdr mre hadd bk bc bg (fun D d => by rw [d]; exact nRG) mRuleX l2
  exact law_ok T c gi d20 MT dig tb3 (cT := cTof T1 T2 T3) (by simp [cTof, lamN]) (fun p hp => (one p hp).2.2) hdice hpick hword mGrid mglen mcm hrows hcalls at_ cR
end K11
open PySem PySem.W PyProof.Rows in
set_option maxRecDepth 100000 in
set_option maxHeartbeats 0 in
theorem PySem.Challenge.cw_grownlines_k11_errors_of_rules_holds : PySem.Challenge.rw_grownlines_k11_errors_of_rules.Holds := by
  w_on; o_law; k_head; (case hw => w_witness2)
  k_fill
  refine GL.walk_tabs (l := PySem.Challenge.rw_grownlines_k11_errors_of_rules) (n := 63) (k := 18) (CX := fun _ => C8.CX0) (x := "_law_script") rfl (by decide) rfl ⟨rfl, by decide, by decide⟩ (fun w h Y => PySem.W.km_in_of Y) ?F (fun _ _ _ _ _ z => z)
  case F =>
    intro w mg fa h Y KX G hmg
    have hT8 := PySem.W.km_tabs_of Y
    refine' K11.all_mk KX G hmg ?w_z0 ?w_z1 ?w_z2 ?w_z3 ?w_z4 ?w_z5 ?w_z6 ?w_z7 ?w_z8 ?w_z9 ?w_z10 ?w_z11 ?w_z12 ?w_z13 ?w_z14 ?w_z15 ?w_z16 ?w_dig ?w_nGRIDS ?w_n_UNITS ?w_nGrid ?w_nRule ?w_c ?w_tg ?w_kS ?w_kT ?w_tS ?w_tT ?w_p0 ?w_p1 ?w_p2 ?w_p3 ?w_q0 ?w_q1 ?w_q2 ?w_q3 ?w_q4 ?w_q5 ?w_di ?w_gi ?w_m0 ?w_m1 ?w_rc ?w_ri ?w_dri ?w_r0 ?w_r1 ?w_r2 ?w_r3 ?w_r4 ?w_sf ?w_fa_ ?w_fr ?w_bg ?w_nRG ?w_vf ?w_cm ?w_neG ?w_qeG ?w_keG ?w_beG ?w_teG ?w_neR ?w_qeR ?w_keR ?w_beR ?w_teR ?w_neO ?w_qeO ?w_keO ?w_beO ?w_teO ?w_xP ?w_xN ?w_yGG ?w_yGR ?w_yGO ?w_yGP ?w_yGN ?w_yRG ?w_yRR ?w_yRO ?w_yRP ?w_yRN ?w_yOG ?w_yOR ?w_yOO ?w_yOP ?w_yON ?w_yPG ?w_yPR ?w_yPO ?w_yPP ?w_yPN ?w_yNG ?w_yNR ?w_yNO ?w_yNP ?w_yNN ?w_nd ?w_g0 ?w_g1 ?w_g2 ?w_g3 ?w_g4 ?w_d0 ?w_d1 ?w_d2 ?w_d3 ?w_d4 ?w_d5 ?w_d6 ?w_d7 ?w_d8 ?w_d9 ?w_d10 ?w_d11 ?w_d12 ?w_d13 ?w_d14 ?w_d15 ?w_d16 ?w_d17 ?w_d18 ?w_d19 ?w_d20 ?w_d21 ?w_d22 ?w_l1 ?w_l2 ?w_l3 ?w_h1 ?w_h2 ?w_h3 ?w_nT ?w_f1 ?w_f2 ?w_f3 ?w_e1 ?w_e2 ?w_e3 rfl
    (case w_z0 => k_is)
    (case w_z1 => k_is)
    (case w_z2 => k_is)
    (case w_z3 => k_is)
    (case w_z4 => k_is)
    (case w_z5 => k_is)
    (case w_z6 => k_is)
    (case w_z7 => k_is)
    (case w_z8 => k_is)
    (case w_z9 => k_is)
    (case w_z10 => k_is)
    (case w_z11 => k_is)
    (case w_z12 => k_is)
    (case w_z13 => k_is)
    (case w_z14 => k_is)
    (case w_z15 => k_is)
    (case w_z16 => k_is)
    (case w_dig => k_is)
    (case w_nGRIDS => k_is)
    (case w_n_UNITS => k_is)
    (case w_nGrid => k_is)
    (case w_nRule => k_is)
    (case w_c => exact ⟨⟨by k_is, by k_is, by k_is, by k_is⟩, (show PySem.W.findIn _ _ _ = some none by k_is), (show PySem.W.findIn _ _ _ = some none by k_is), (show PySem.W.findIn _ _ _ = some none by k_is), (show PySem.W.findIn _ _ _ = some none by k_is)⟩)
    (case w_tg => exact ⟨_, _, _, by k_is, rfl, rfl, by decide, (.cons ⟨_, rfl⟩ (.cons ⟨_, rfl⟩ .nil))⟩)
    (case w_kS => refine' GL.kdct_mk ?kl ?kn ?kk; (case kl => k_is); (case kn => k_is); (case kk => exact ⟨⟨_, _, rfl, rfl⟩, ⟨_, _, rfl, rfl⟩, True.intro⟩))
    (case w_kT => refine' GL.kdct_mk ?kl ?kn ?kk; (case kl => k_is); (case kn => k_is); (case kk => exact ⟨⟨_, _, rfl, rfl⟩, ⟨_, _, rfl, rfl⟩, True.intro⟩))
    (case w_tS => exact ⟨_, _, _, by k_is, rfl, rfl, by decide, (.cons rfl (.cons rfl (.cons rfl (.cons rfl .nil))))⟩)
    (case w_tT => exact ⟨_, _, _, by k_is, rfl, rfl, by decide, (.cons rfl (.cons rfl (.cons rfl (.cons rfl (.cons rfl (.cons rfl .nil))))))⟩)
    (case w_p0 => exact ⟨_, _, _, by k_is, rfl, rfl, by decide, (.cons ⟨_, rfl⟩ (.cons ⟨_, rfl⟩ .nil))⟩)
    (case w_p1 => exact ⟨_, _, _, by k_is, rfl, rfl, by decide, (.cons ⟨_, rfl⟩ (.cons ⟨_, rfl⟩ .nil))⟩)
    (case w_p2 => exact ⟨_, _, _, by k_is, rfl, rfl, by decide, (.cons ⟨_, rfl⟩ (.cons ⟨_, rfl⟩ .nil))⟩)
    (case w_p3 => exact ⟨_, _, _, by k_is, rfl, rfl, by decide, (.cons ⟨_, rfl⟩ (.cons ⟨_, rfl⟩ .nil))⟩)
    (case w_q0 => exact ⟨_, _, _, by k_is, rfl, rfl, by decide, (.cons ⟨_, rfl⟩ (.cons ⟨_, rfl⟩ .nil))⟩)
    (case w_q1 => exact ⟨_, _, _, by k_is, rfl, rfl, by decide, (.cons ⟨_, rfl⟩ (.cons ⟨_, rfl⟩ .nil))⟩)
    (case w_q2 => exact ⟨_, _, _, by k_is, rfl, rfl, by decide, (.cons ⟨_, rfl⟩ (.cons ⟨_, rfl⟩ .nil))⟩)
    (case w_q3 => exact ⟨_, _, _, by k_is, rfl, rfl, by decide, (.cons ⟨_, rfl⟩ (.cons ⟨_, rfl⟩ .nil))⟩)
    (case w_q4 => exact ⟨_, _, _, by k_is, rfl, rfl, by decide, (.cons ⟨_, rfl⟩ (.cons ⟨_, rfl⟩ .nil))⟩)
    (case w_q5 => exact ⟨_, _, _, by k_is, rfl, rfl, by decide, (.cons ⟨_, rfl⟩ (.cons ⟨_, rfl⟩ .nil))⟩)
    (case w_di => refine' GL.dc_mk ?a ?i ?l ?c ?k ?mk ?kc; (case a => k_is); (case i => k_is); (case l => k_is); (case c => k_is); (case k => k_is); (case mk => k_is); (case kc => k_is))
    (case w_gi => exact GL.gis_mk (by k_is) (by k_is) (by k_is) (by k_is) (by k_is) (by k_is) (by k_is) (by k_is))
    (case w_m0 => refine' GL.dm_mk ?a ?i ?l ?c ?k; (case a => k_is); (case i => k_is); (case l => k_is); (case c => k_is); (case k => k_is))
    (case w_m1 => refine' GL.dm_mk ?a ?i ?l ?c ?k; (case a => k_is); (case i => k_is); (case l => k_is); (case c => k_is); (case k => k_is))
    (case w_rc => exact ⟨⟨by k_is, by k_is, by k_is, by k_is⟩, (show PySem.W.findIn _ _ _ = some none by k_is), (show PySem.W.findIn _ _ _ = some none by k_is), (show PySem.W.findIn _ _ _ = some none by k_is), (show PySem.W.findIn _ _ _ = some none by k_is), (show PySem.W.findIn _ _ _ = some none by k_is)⟩)
    (case w_ri => exact GL.gis_mk (by k_is) (by k_is) (by k_is) (by k_is) (by k_is) (by k_is) (by k_is) (by k_is))
    (case w_dri => refine' GL.dc_mk ?a ?i ?l ?c ?k ?mk ?kc; (case a => k_is); (case i => k_is); (case l => k_is); (case c => k_is); (case k => k_is); (case mk => k_is); (case kc => k_is))
    (case w_r0 => refine' GL.dm_mk ?a ?i ?l ?c ?k; (case a => k_is); (case i => k_is); (case l => k_is); (case c => k_is); (case k => k_is))
    (case w_r1 => refine' GL.dm_mk ?a ?i ?l ?c ?k; (case a => k_is); (case i => k_is); (case l => k_is); (case c => k_is); (case k => k_is))
    (case w_r2 => refine' GL.dm_mk ?a ?i ?l ?c ?k; (case a => k_is); (case i => k_is); (case l => k_is); (case c => k_is); (case k => k_is))
    (case w_r3 => refine' GL.dm_mk ?a ?i ?l ?c ?k; (case a => k_is); (case i => k_is); (case l => k_is); (case c => k_is); (case k => k_is))
    (case w_r4 => refine' GL.dm_mk ?a ?i ?l ?c ?k; (case a => k_is); (case i => k_is); (case l => k_is); (case c => k_is); (case k => k_is))
    (case w_sf => k_is)
    (case w_fa_ => exact ⟨_, by k_is⟩)
    (case w_fr => k_is)
    (case w_bg => refine' K11.bare_mk (m := "__add__") (r := "__radd__") ?a ?b ?c ?d (by decide +kernel) (by decide +kernel); (case a => k_is); (case b => first | rfl | decide); (case c => k_is); (case d => k_is))
    (case w_nRG => decide)
    (case w_vf => exact GL.gm_mk (by k_is) (by k_is))
    (case w_cm => refine' K11.dcm_mk ?yrd ?yga ?yat ?yrc ?yfi ?yl ?yc ?yk; (case yrd => k_is); (case yga => k_is); (case yat => k_is); (case yrc => k_is); (case yfi => k_is); (case yl => k_is); (case yc => k_is); (case yk => k_is))
    (case w_neG => k_is)
    (case w_qeG => k_exc)
    (case w_keG => k_is)
    (case w_beG => k_is)
    (case w_teG => k_is)
    (case w_neR => k_is)
    (case w_qeR => k_exc)
    (case w_keR => k_is)
    (case w_beR => k_is)
    (case w_teR => k_is)
    (case w_neO => k_is)
    (case w_qeO => k_exc)
    (case w_keO => k_is)
    (case w_beO => k_is)
    (case w_teO => k_is)
    (case w_xP => refine' GL.err_mk KX G PySem.F.excBase_ValueError PySem.GLE.chain_value.cons (by decide) (by decide) (fun _ _ _ _ _ _ _ _ _ _ _ _ _ _ _ => rfl) ?yn ?yl ?yiC ?ylf ?ycd ?ysa ?yga ?ygg ?yno ?ytC ?ykC ?yexC ?ytyC ?yhdC; (case yn => k_is); (case yl => k_is); (case yiC => k_is); (case ylf => k_is); (case ycd => k_is); (case ysa => k_is); (case yga => k_is); (case ygg => k_is); (case yno => k_is); (case ytC => k_is); (case ykC => k_is); (case yexC => k_is); (case ytyC => k_is); (case yhdC => k_is))
    (case w_xN => refine' GL.err_mk KX G PySem.F.excBase_IndexError PySem.GLE.chain_index (by decide) (by decide) (fun _ _ _ _ _ _ _ _ _ _ _ _ _ _ _ => rfl) ?yn ?yl ?yiC ?ylf ?ycd ?ysa ?yga ?ygg ?yno ?ytC ?ykC ?yexC ?ytyC ?yhdC; (case yn => k_is); (case yl => k_is); (case yiC => k_is); (case ylf => k_is); (case ycd => k_is); (case ysa => k_is); (case yga => k_is); (case ygg => k_is); (case yno => k_is); (case ytC => k_is); (case ykC => k_is); (case yexC => k_is); (case ytyC => k_is); (case yhdC => k_is))
    (case w_yGG => exact PySem.W.exm_ref (by k_is) (by k_is) (by k_is) (by k_is))
    (case w_yGR => exact PySem.W.exm_ref (by k_is) (by k_is) (by k_is) (by k_is))
    (case w_yGO => exact PySem.W.exm_ref (by k_is) (by k_is) (by k_is) (by k_is))
    (case w_yGP => exact PySem.W.exm_ref (by k_is) (by k_is) (by k_is) (by k_is))
    (case w_yGN => exact PySem.W.exm_ref (by k_is) (by k_is) (by k_is) (by k_is))
    (case w_yRG => exact PySem.W.exm_ref (by k_is) (by k_is) (by k_is) (by k_is))
    (case w_yRR => exact PySem.W.exm_ref (by k_is) (by k_is) (by k_is) (by k_is))
    (case w_yRO => exact PySem.W.exm_ref (by k_is) (by k_is) (by k_is) (by k_is))
    (case w_yRP => exact PySem.W.exm_ref (by k_is) (by k_is) (by k_is) (by k_is))
    (case w_yRN => exact PySem.W.exm_ref (by k_is) (by k_is) (by k_is) (by k_is))
    (case w_yOG => exact PySem.W.exm_ref (by k_is) (by k_is) (by k_is) (by k_is))
    (case w_yOR => exact PySem.W.exm_ref (by k_is) (by k_is) (by k_is) (by k_is))
    (case w_yOO => exact PySem.W.exm_ref (by k_is) (by k_is) (by k_is) (by k_is))
    (case w_yOP => exact PySem.W.exm_ref (by k_is) (by k_is) (by k_is) (by k_is))
    (case w_yON => exact PySem.W.exm_ref (by k_is) (by k_is) (by k_is) (by k_is))
    (case w_yPG => exact PySem.W.exm_ref (by k_is) (by k_is) (by k_is) (by k_is))
    (case w_yPR => exact PySem.W.exm_ref (by k_is) (by k_is) (by k_is) (by k_is))
    (case w_yPO => exact PySem.W.exm_ref (by k_is) (by k_is) (by k_is) (by k_is))
    (case w_yPP => exact PySem.W.exm_ref (by k_is) (by k_is) (by k_is) (by k_is))
    (case w_yPN => exact PySem.W.exm_ref (by k_is) (by k_is) (by k_is) (by k_is))
    (case w_yNG => exact PySem.W.exm_ref (by k_is) (by k_is) (by k_is) (by k_is))
    (case w_yNR => exact PySem.W.exm_ref (by k_is) (by k_is) (by k_is) (by k_is))
    (case w_yNO => exact PySem.W.exm_ref (by k_is) (by k_is) (by k_is) (by k_is))
    (case w_yNP => exact PySem.W.exm_ref (by k_is) (by k_is) (by k_is) (by k_is))
    (case w_yNN => exact PySem.W.exm_ref (by k_is) (by k_is) (by k_is) (by k_is))
    (case w_nd => decide)
    (case w_g0 => exact ⟨_, by k_is, ⟨_, by rw [GL.B_eq]; rfl⟩⟩)
    (case w_g1 => exact ⟨_, by k_is, ⟨_, rfl⟩⟩)
    (case w_g2 => exact ⟨_, by k_is, ⟨_, rfl⟩⟩)
    (case w_g3 => exact ⟨_, by k_is, ⟨_, rfl⟩⟩)
    (case w_g4 => exact ⟨_, by k_is, ⟨_, rfl⟩⟩)
    (case w_d0 => refine' GL.df_mk KX G ?a ?l ?c ?k; (case a => k_is); (case l => k_is); (case c => k_is); (case k => k_is))
    (case w_d1 => refine' GL.df_mk KX G ?a ?l ?c ?k; (case a => k_is); (case l => k_is); (case c => k_is); (case k => k_is))
    (case w_d2 => refine' GL.df_mk KX G ?a ?l ?c ?k; (case a => k_is); (case l => k_is); (case c => k_is); (case k => k_is))
    (case w_d3 => refine' GL.df_mk KX G ?a ?l ?c ?k; (case a => k_is); (case l => k_is); (case c => k_is); (case k => k_is))
    (case w_d4 => refine' GL.df_mk KX G ?a ?l ?c ?k; (case a => k_is); (case l => k_is); (case c => k_is); (case k => k_is))
    (case w_d5 => refine' GL.df_mk KX G ?a ?l ?c ?k; (case a => k_is); (case l => k_is); (case c => k_is); (case k => k_is))
    (case w_d6 => refine' GL.df_mk KX G ?a ?l ?c ?k; (case a => k_is); (case l => k_is); (case c => k_is); (case k => k_is))
    (case w_d7 => refine' GL.df_mk KX G ?a ?l ?c ?k; (case a => k_is); (case l => k_is); (case c => k_is); (case k => k_is))
    (case w_d8 => refine' GL.df_mk KX G ?a ?l ?c ?k; (case a => k_is); (case l => k_is); (case c => k_is); (case k => k_is))
    (case w_d9 => refine' GL.df_mk KX G ?a ?l ?c ?k; (case a => k_is); (case l => k_is); (case c => k_is); (case k => k_is))
    (case w_d10 => refine' GL.df_mk KX G ?a ?l ?c ?k; (case a => k_is); (case l => k_is); (case c => k_is); (case k => k_is))
    (case w_d11 => refine' GL.df_mk KX G ?a ?l ?c ?k; (case a => k_is); (case l => k_is); (case c => k_is); (case k => k_is))
    (case w_d12 => refine' GL.df_mk KX G ?a ?l ?c ?k; (case a => k_is); (case l => k_is); (case c => k_is); (case k => k_is))
    (case w_d13 => refine' GL.df_mk KX G ?a ?l ?c ?k; (case a => k_is); (case l => k_is); (case c => k_is); (case k => k_is))
    (case w_d14 => refine' GL.df_mk KX G ?a ?l ?c ?k; (case a => k_is); (case l => k_is); (case c => k_is); (case k => k_is))
    (case w_d15 => refine' GL.df_mk KX G ?a ?l ?c ?k; (case a => k_is); (case l => k_is); (case c => k_is); (case k => k_is))
    (case w_d16 => refine' GL.df_mk KX G ?a ?l ?c ?k; (case a => k_is); (case l => k_is); (case c => k_is); (case k => k_is))
    (case w_d17 => refine' GL.df_mk KX G ?a ?l ?c ?k; (case a => k_is); (case l => k_is); (case c => k_is); (case k => k_is))
    (case w_d18 => refine' GL.df_mk KX G ?a ?l ?c ?k; (case a => k_is); (case l => k_is); (case c => k_is); (case k => k_is))
    (case w_d19 => refine' GL.df_mk KX G ?a ?l ?c ?k; (case a => k_is); (case l => k_is); (case c => k_is); (case k => k_is))
    (case w_d20 => refine' GL.df_mk KX G ?a ?l ?c ?k; (case a => k_is); (case l => k_is); (case c => k_is); (case k => k_is))
    (case w_d21 => refine' GL.df_mk KX G ?a ?l ?c ?k; (case a => k_is); (case l => k_is); (case c => k_is); (case k => k_is))
    (case w_d22 => refine' GL.df_mk KX G ?a ?l ?c ?k; (case a => k_is); (case l => k_is); (case c => k_is); (case k => k_is))
    (case w_l1 => refine' GL.dl_mk KX G ?a ?l ?c ?k; (case a => k_is); (case l => k_is); (case c => k_is); (case k => k_is))
    (case w_l2 => refine' GL.dl_mk KX G ?a ?l ?c ?k; (case a => k_is); (case l => k_is); (case c => k_is); (case k => k_is))
    (case w_l3 => refine' GL.dl_mk KX G ?a ?l ?c ?k; (case a => k_is); (case l => k_is); (case c => k_is); (case k => k_is))
    (case w_h1 => refine' K11.cd_mk ?l ?e ?h; (case l => k_is); (case e => rfl); (case h => kernel_rfl))
    (case w_h2 => refine' K11.cd_mk ?l ?e ?h; (case l => k_is); (case e => rfl); (case h => kernel_rfl))
    (case w_h3 => refine' K11.cd_mk ?l ?e ?h; (case l => k_is); (case e => rfl); (case h => kernel_rfl))
    (case w_nT => decide)
    (case w_f1 => kernel_rfl)
    (case w_f2 => kernel_rfl)
    (case w_f3 => kernel_rfl)
    (case w_e1 => exact hT8 _ (by k_mem))
    (case w_e2 => exact hT8 _ (by k_mem))
    (case w_e3 => exact hT8 _ (by k_mem))
