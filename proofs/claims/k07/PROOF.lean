import PyProof.Rows.All
import Wide.All
import OpenK.AllK
import Wide.FinOn
import HandS.ForMost
import HandS.IsInst
import HandS.Wide
import HandS.Style
import HandS.TupLe
import HandS.TupAny
import HandS.Walk
import HandS.Evl
import HandS.More
import HandS.Zip
import PyProof.Rows.StrOr
import PyProof.ReprRoads
import KE.KIsAll
import KE.KCallOwn
import PyProof.InstEq
import HandS.OwnIter
import HandS.IterVal
import PyProof.WalksMore
import HandS.Deep
import HandS.Strs
import KE.KOpsOwn
import OpenK.KMeth
import OpenK.KOps
import OpenK.KCls
import PyProof.AttrMiss
import PyProof.Conv_bool
import PyProof.ListNew
import HandS.RaiseMore
import HandS.FStr
import HandS.Text
import HandS.StrMore
import HandS.WideBits
import HandS.Exc
import HandS.ExcOwn
import HandS.ExcValue
import HandS.TryMany
import KE.KExcIs
import HandS.ExcField
import HandS.HotCalls
import HandS.ExcIs
import KE.RegKIsAll
import PyProof.ExcBaseAll.LookupError
import PyProof.ExcBaseAll.IndexError
import PyProof.ExcBaseAll.RuntimeError
import PyProof.ExcBaseAll.OverflowError
import PyProof.ExcBaseAll.ArithmeticError
import PyProof.ExcBaseAll.ZeroDivisionError
import HandS.Lambda
import HandS.EndTab
import PyProof.Rows.StrInSeq
import PyProof.EqKinds
import PyProof.NeKinds
import KE.KNestM
import PySem.Challenge.RW_grownlines_k07_errors_of_grids
set_option Elab.async false
set_option linter.all false
set_option maxRecDepth 100000
set_option exponentiation.threshold 7000
set_option maxHeartbeats 4000000
/-! Promises of defs that are called where nothing is being shown (repr asks it). -/
namespace GL
open PySem PySem.Spec PyProof.Rows L2

def Gd (A : Around) : Prop := A.guards = some []
structure FnG (P : Program) (w : World) (K : PySem.W.Frag) (mg : Str → Option Value) (base : Heap) (CX : CXT) (k : Nat) (f : Addr) (fd : FuncData) (ps : List Str) (sp : Sp) : Prop where
  len : ∀ vs H Q E, sp vs H Q E → vs.length = ps.length
  go : ∀ {A : Around} {outer : List Env} {s : Shared} {H : Hp} {args : Args} {us : List Value} {vs : List V} {Q : VK} {E : XK}, Gd A → Room k A → Env0 P w K mg base A outer s H →
    BindsTo s fd args (ps.zip us) → Vals vs us → sp vs H Q E → codeAny (model P w) A (.call (.ref f) args) (CR CX outer P w H s Q E) s
section
variable {P : Program} {w : World} {K : PySem.W.Frag} {mg : Str → Option Value} {base : Heap} {CX : CXT} {k : Nat} {f : Addr} {fd : FuncData} {ps N : List Str} {sp : Sp} {x qual : Str} {st : Stmt}
theorem FnG.of (F : FnOk P w K mg base CX k f fd ps sp) : FnG P w K mg base CX k f fd ps sp :=
  ⟨F.len, fun {A outer s H args us vs Q E} _ r e b v q => F.run A outer s H args us vs Q E r e b v q⟩
theorem FnG.up {j : Nat} (F : FnG P w K mg base CX j f fd ps sp) (h : j ≤ k) : FnG P w K mg base CX k f fd ps sp :=
  ⟨F.len, fun g r => F.go g (r.mono h)⟩
theorem fnG_mk (F : Fun K x qual st f fd) (S : FnScope N ps (defScope st)) (len : ∀ vs H Q E, sp vs H Q E → vs.length = ps.length)
    (body : ∀ (cdv : Value) (A : Around) (outer : List Env) (s : Shared) (H : Hp) (vs : List V) (Q : VK) (E : XK), Gd A → Room k (A.deeper (envOfC qual (defScope st) s.heap.objs.size f cdv)) → sp vs H Q E →
      ∃ t, PSs (cxOf CX P w K mg base N qual (defScope st) f cdv A outer s H E) (defBody st) t ∧ t { nx := fun _ H' => Q .non H', rt := Q } (start N vs) H) :
    FnG P w K mg base CX (k + 1) f fd ps sp := by
  obtain ⟨oc, od, kV, doc, pm, an, cdv, ct, osl, eF, at_, cR⟩ := F.ex
  subst eF
  constructor
  · exact len
  intro A outer s H args us vs Q E g room e0 bi vals asked
  have inK : K.In s.heap := e0.mod.kin.keeps (fun b o q => (e0.bs b o q).1)
  have line : s.heap.NoLimit := e0.mod.nolimit.keeps (fun b o q => (e0.bs b o q).1)
  have kinds : ∀ y ∈ ps.zip us, (defScope st).names.lookup y.1 = some .local ∨ ((defScope st).names.lookup y.1 = some .cell ∧ ((cellsFrom (s.heap.objs.size + 1) (defScope st).names []).lookup y.1).isSome = true) := by
    intro ⟨n, v⟩ hy
    cases S.par n (List.of_mem_zip hy).1 with
    | inl q => exact Or.inl q
    | inr q => exact Or.inr ⟨q, PySem.W.cellsFrom_some _ _ _ (Or.inl q)⟩
  apply codeAny_call_function room.depth (inK _ _ at_) rfl S.co S.gen rfl (PySem.W.codeRec_of inK cR)
  apply bi
  refine wpAny_newFunctionEnv_cells S.kind kinds (fun env eE s1 x1 => ?_)
  subst eE
  obtain ⟨t, rule, q⟩ := body cdv A outer s H vs Q E g (room.deeper _) asked
  have I0 := inv_start (CX := CX) (E := E) S room.hd e0 (len _ _ _ _ asked) vals x1
  refine ⟨line.keeps x1.toInCall.keep, codeAny_func (wpAny_mono (rule.run [] s1 _ H _ I0 q) (fun fl s' done => ?_) (fun _ _ z => z))⟩
  cases fl with
  | ret u => obtain ⟨v, _, H', J, rv, qv⟩ := done; exact ⟨v, H', J.os, J.bare, J.base, J.hok, rv, qv⟩
  | next => obtain ⟨_, H', J, qv⟩ := done; exact ⟨V.non, H', J.os, J.bare, J.base, J.hok, rfl, qv⟩
  | brk => obtain ⟨_, _, _, z⟩ := done; exact z.elim
  | cont => obtain ⟨_, _, _, z⟩ := done; exact z.elim
end

section
variable {X : Cx} {CX : CXT} {k : Nat} {f C : Addr} {fd : FuncData} {ps : List Str} {sp : Sp} {E : XK} {x m : Str} {p pos apos : Pos} {e o : Expr} {es : List Expr} {ta : TE} {t : TA}

theorem goes {pins : List (Addr × Obj)} {σ : L2.St} {H : Hp} {s : Shared} {Q : VK} {us : List Value} {vs : List V} (F : FnG X.prog X.w X.K X.mg X.base CX k f fd ps sp) (g : Gd X.A) (hr : Room k X.A) (hb : Binds X.K fd ps []) (hx : Passes CX X E)
    (I : Inv X pins σ H s) (r : Vals vs us) (h : sp vs H Q E) : wpAny (model X.prog X.w) X.A (call (.ref f) us) (EP X pins σ Q) X.xe s := by
  have n1 : (us ++ []).length = ps.length := by rw [List.append_nil, ← r.length]; exact F.len _ _ _ _ h
  have b1 := hb s us I.kIn n1
  rw [List.append_nil] at b1
  apply wpAny_call
  refine codeAny_mono (F.go g hr I.env0 b1 r h) (fun res s' z => ?_)
  match res, z with
  | .error _, z => exact hx pins σ H s _ s' I z
  | .ok (.ret _), z => exact I.after z
/-- what a name of a def is good for: the def at it keeps a promise -/
structure Has (P : Program) (w : World) (K : PySem.W.Frag) (mg : Str → Option Value) (base : Heap) (CX : CXT) (x : Str) (k : Nat) (ps : List Str) (sp : Sp) : Prop where
  ex : ∃ f fd, FnG P w K mg base CX k f fd ps sp ∧ mg x = some (.ref f) ∧ PySem.W.keepIn K (.ref f) = true ∧ Binds K fd ps []
theorem pe_callH (h : Has X.prog X.w X.K X.mg X.base CX x k ps sp) (g : Gd X.A) (hr : Room k X.A) (hx : Passes CX X E) (ha : PA X (e :: es) t) (hg : Gl X x := by exact rfl)
    (hdb : (x == ("__debug__" : Str)) = false := by decide) (he : starEach (e :: es) X.env = (false, eval e X.env) :: starEach es X.env := by rfl) (hpl : (backTo pos (starEach es X.env)).any (·.1) = false := by rfl) :
    PE X (.Call (.Name x p) (e :: es) [] pos) (tCall sp [] E t) := by
  obtain ⟨f, fd, F, m, kp, b⟩ := h.ex
  constructor
  intro pins s σ H Q I q
  apply wpAny_Call_Name_kw
  apply ld_glob I hg m _ hdb
  refine PySem.W.callWith_K (h₀ := X.base) I.ok.mod.kin kp (thn (ha.run pos pins s σ H _ I q) (fun us s1 z => ?_)) he hpl
  obtain ⟨vs, H1, I1, r, q1⟩ := z
  rw [List.append_nil] at q1
  exact ⟨I1.kIn, goes F g hr b hx I1 r q1⟩
theorem pe_call0H (h : Has X.prog X.w X.K X.mg X.base CX x k ps sp) (g : Gd X.A) (hr : Room k X.A) (hx : Passes CX X E) (hg : Gl X x := by exact rfl)
    (hdb : (x == ("__debug__" : Str)) = false := by decide) : PE X (.Call (.Name x p) [] [] pos) (tCall sp [] E tNil) := by
  obtain ⟨f, fd, F, m, kp, b⟩ := h.ex
  constructor
  intro pins s σ H Q I q
  apply wpAny_Call_Name_kw
  apply ld_glob I hg m _ hdb
  exact PySem.W.callWith_K0 I.kIn kp (goes (us := []) F g hr b hx I .nil q)
/-- a method of the instances of a class -/
structure HasM (P : Program) (w : World) (K : PySem.W.Frag) (mg : Str → Option Value) (base : Heap) (CX : CXT) (C : Addr) (m : Str) (k : Nat) (ps : List Str) (sp : Sp) : Prop where
  ex : ∃ f fd, FnG P w K mg base CX k f fd ps sp ∧ Meth K C m f ∧ Binds K fd ps []
theorem pe_methH {pl : Sem Bool} (he : PE X o ta) (c : Cls X.K C) (h : HasM X.prog X.w X.K X.mg X.base CX C m k ps sp) (g : Gd X.A) (hr : Room k X.A) (hx : Passes CX X E) (ha : PA X (e :: es) t)
    (hst : starEach (e :: es) X.env = (false, eval e X.env) :: starEach es X.env := by rfl) (hpl : (backTo pos (starEach es X.env)).any (·.1) = false := by rfl)
    (ht : eval (.Call (.Attribute o m apos) (e :: es) [] pos) X.env = ((eval o X.env).bind fun ov => (standAt apos.atName).bind fun _ => (holding [ov] (getMethod ov m pl)).bind fun fm =>
      callWith pos fm.1 fm.2 (backTo pos (starEach (e :: es) X.env)) (backToKw pos (keywordEach [] X.env))) := by rfl) :
    PE X (.Call (.Attribute o m apos) (e :: es) [] pos) (tMeth C m sp [] E ta t) := by
  obtain ⟨f, fd, F, M, b⟩ := h.ex
  constructor
  intro pins s σ H Q I q
  refine PySem.W.methodCall_KW (pl := pl) (thn (he.run pins s σ H _ I q) (fun u s1 z => ?_)) ht
  obtain ⟨x, H1, I1, rx, a, dx, fs, ex, ea, l, q1⟩ := z
  subst ex
  cases (show u = Value.ref a from rx)
  apply getmeth_ok I1 ea c M l
  refine PySem.W.callWith_K (first := [.ref a]) (h₀ := X.base) I.ok.mod.kin M.kp (thn (ha.run pos pins s1 σ H1 _ I1 q1) (fun us s2 z => ?_)) hst hpl
  obtain ⟨vs, H2, I2, r, q2⟩ := z
  rw [List.append_nil] at q2
  exact ⟨I2.kIn, goes (us := .ref a :: us) (vs := .ref a :: vs) F g hr b hx I2 (.cons rfl r) q2⟩
theorem pe_meth0H {pl : Sem Bool} (he : PE X o ta) (c : Cls X.K C) (h : HasM X.prog X.w X.K X.mg X.base CX C m k ps sp) (g : Gd X.A) (hr : Room k X.A) (hx : Passes CX X E)
    (ht : eval (.Call (.Attribute o m apos) [] [] pos) X.env = ((eval o X.env).bind fun ov => (standAt apos.atName).bind fun _ => (holding [ov] (getMethod ov m pl)).bind fun fm =>
      callWith pos fm.1 fm.2 (backTo pos (starEach [] X.env)) (backToKw pos (keywordEach [] X.env))) := by rfl) :
    PE X (.Call (.Attribute o m apos) [] [] pos) (tMeth C m sp [] E ta tNil) := by
  obtain ⟨f, fd, F, M, b⟩ := h.ex
  constructor
  intro pins s σ H Q I q
  refine PySem.W.methodCall_KW (pl := pl) (thn (he.run pins s σ H _ I q) (fun u s1 z => ?_)) ht
  obtain ⟨x, H1, I1, rx, a, dx, fs, ex, ea, l, q1⟩ := z
  subst ex
  cases (show u = Value.ref a from rx)
  apply getmeth_ok I1 ea c M l
  exact PySem.W.callWith_K0 (first := [.ref a]) I1.kIn M.kp (goes (us := [.ref a]) (vs := [.ref a]) F g hr b hx I1 (.cons rfl .nil) q1)
/-- len of an instance whose class has its own __len__ -/
theorem call_lenM (h : HasM X.prog X.w X.K X.mg X.base CX C "__len__" k ["self"] sp) (g : Gd X.A) (hr : Room (k + 1) X.A) (hx : Passes CX X E) :
    CallR X (.builtin "len") (fun xs H Q => ∃ a dx fs, xs = [.ref a] ∧ H a = some (.ins C dx fs) ∧ sp [.ref a] H (fun v H' => ∃ n : Int, v = .int n ∧ 0 ≤ n ∧ n < 2 ^ 63 ∧ Q (.int n) H') E) := by
  intro pins s σ H xs us Q I r q
  obtain ⟨a, dx, fs, rfl, ea, q1⟩ := q
  obtain ⟨f, fd, F, M, b⟩ := h.ex
  obtain ⟨u, rfl, ru⟩ := vals1 r
  cases (show u = Value.ref a from ru)
  obtain ⟨mA, O, _⟩ := ins_get I.hok ea
  obtain ⟨od, J, _⟩ := O.look
  have n1 : ([.ref a] : List Value).length = ["self"].length := rfl
  have b1 := b s [.ref a] I.kIn n1
  rw [List.append_nil] at b1
  obtain ⟨m', fr⟩ := I.fr
  refine PySem.W.len_K fr I.mod.kin J M.at_ M.fn ?_
  apply wpAny_call
  refine codeAny_mono (F.go (A := X.A.in1) g hr.in1 I.env0.in1 b1 (vs := [.ref a]) (.cons rfl .nil) q1) (fun res s' z => ?_)
  match res, z with
  | .error _, z => exact hx pins σ H s _ s' I z
  | .ok (.ret _), z =>
    obtain ⟨v, H', I', rv, n, rfl, n0, n1, q2⟩ := I.after z
    obtain ⟨t, rfl⟩ := rv
    exact ⟨⟨n0, n1⟩, .int n, H', I'.tok _, ⟨_, rfl⟩, q2⟩
/-- a class that is called: its __init__ keeps a promise -/
structure HasC (P : Program) (w : World) (K : PySem.W.Frag) (mg : Str → Option Value) (base : Heap) (x : Str) (C : Addr) (k : Nat) (ps : List Str) (sp : Sp) : Prop where
  ex : ∃ f fd, FnOk P w K mg base CX0 k f fd ps sp ∧ mg x = some (.ref C) ∧ Mk K C f ∧ Binds K fd ps []
theorem pe_makeH (h : HasC X.prog X.w X.K X.mg X.base x C k ps sp) (hr : Room (k + 1) X.A) (hx : Passes CX0 X E) (ha : PA X (e :: es) t) (hg : Gl X x := by exact rfl)
    (hdb : (x == ("__debug__" : Str)) = false := by decide) (he : starEach (e :: es) X.env = (false, eval e X.env) :: starEach es X.env := by rfl) (hpl : (backTo pos (starEach es X.env)).any (·.1) = false := by rfl) :
    PE X (.Call (.Name x p) (e :: es) [] pos) (tMake C sp [] E t) := by
  obtain ⟨f, fd, F, m, M, b⟩ := h.ex
  exact pe_make M F hr hg m b .nil hx ha hdb he hpl
end

/-! ### the script's end -/
section
variable {P : Program} {w : World} {K : PySem.W.Frag} {mg mb : Str → Option Value} {k : Nat} {fa a : Addr} {fd : FuncData} {x : Str} {sp : Sp} {s1 : Shared} {vs : List Value} {ns : List Int} {CX : CXT}
theorem core_end {H : Hp} (inK : K.In s1.heap) (hns : s1.heap.Ns mainGlobals mg) (hb : s1.heap.Ns builtinsNs mb) (hbb : ∀ x : Str, x ≠ "__name__" → mb x = bootBuiltins x) (lim : s1.heap.NoLimit) (hg : s1.gens = #[])
    (ha : s1.heap.get? a = some { cls := .type "list", data := .seq vs.toArray }) (hr : Room k callerA) (F : ∀ base : Heap, K.In base → base.Ns mainGlobals mg → FnG P w K mg base CX k fa fd [x] sp)
    (bi : ∀ (s : Shared) (u : Value), BindsTo s fd ⟨[u], []⟩ [(x, u)]) (asked : sp [.ref a] H (fun v _ => v = .bl true) (fun _ _ _ => False)) (none_ : ∀ e s', CX [] H s1 (fun _ _ _ => False) e s' → False)
    (hO : Only H) (ok : HOk P w H s1.heap) (hA : ∀ b, H b ≠ none → b = a) (hK : H a ≠ none → K.lookup a = none) :
    codeAny (model P w) callerA (.call (.ref fa) ⟨[.ref a], []⟩) (fun r s' => r = .ok (.ret (.bool true)) ∧ OldK s1.heap s'.heap ∧ s'.os = s1.os ∧ AllBare s'.gens) s1 := by
  have untracked : ∀ b o es ep, s1.heap.get? b = some o → o.data = .dict es ep → H b = none := by
    intro b o es ep e d
    rcases hq : H b with _ | u
    · rfl
    · have eb := hA b (by rw [hq]; exact nofun)
      rw [eb, ha] at e
      rw [← Option.some.inj e] at d
      exact absurd d (by exact nofun)
  have ns_ : ∀ b m, s1.heap.Ns b m → (hidT s1.heap H).Ns b m := by
    rintro b m ⟨o, es, ep, e, d, r⟩
    exact ⟨o, es, ep, hidT_get e (untracked b o es ep e d), d, r⟩
  have kin : K.In (hidT s1.heap H) := by
    intro b o e
    apply hidT_get (inK b o e)
    rcases hq : H b with _ | u
    · rfl
    · have eb := hA b (by rw [hq]; exact nofun)
      subst eb
      rw [hK (by rw [hq]; exact nofun)] at e
      exact absurd e nofun
  obtain ⟨mc, l1, l2⟩ := lim
  have e0 : Env0 P w K mg (hidT s1.heap H) callerA [] s1 H :=
    { frames := rfl, mod := ⟨kin, ns_ _ _ hns, ⟨mb, ns_ _ _ hb, hbb⟩, ⟨mc, ns_ _ _ l1, l2⟩⟩, bs := fun b o e => of_hidT e, bsz := Nat.le_of_eq (hidT_size _ _), funs := trivial,
      frf := fun b z => absurd (show b ∈ ([] : List Addr) from z) (List.not_mem_nil), hok := ok, bare := .of_eq hg }
  refine codeAny_mono ((F _ kin (ns_ _ _ hns)).go (args := ⟨[.ref a], []⟩) (us := [.ref a]) (vs := [.ref a]) rfl hr e0 (bi s1 (.ref a)) (.cons rfl .nil) asked) (fun r s' z => ?_)
  match r, z with
  | .error e, z => exact (none_ e s' z).elim
  | .ok (.ret u), z =>
    obtain ⟨v, H', os, bare, un, ok', rv, qv⟩ := z
    cases (show v = .bl true from qv)
    cases (show u = Value.bool true from rv)
    refine ⟨rfl, OldK.of_keep (fun b o e => ?_), os, bare⟩
    rcases hq : H b with _ | u
    · exact un.keep b o e hq (fun z => absurd (show b ∈ ([] : List Addr) from z) List.not_mem_nil) List.not_mem_nil
    · rcases hO b with z | ⟨ob, xs, z⟩
      · rw [z] at hq; cases hq
      · have g1 := (ok b _ z).1
        have g2 := (ok' b _ (un.frzs b ob _ z)).1
        rw [e] at g1
        rw [g2, ← g1]
theorem law_end (inK : K.In s1.heap) (hns : s1.heap.Ns mainGlobals mg) (hb : s1.heap.Ns builtinsNs mb) (hbb : ∀ x : Str, x ≠ "__name__" → mb x = bootBuiltins x) (lim : s1.heap.NoLimit) (hg : s1.gens = #[])
    (ha : s1.heap.get? a = some { cls := .type "list", data := .seq vs.toArray }) (hi : IntsAre vs ns) (hl : ns.length ≤ sizeLine) (hr : Room k callerA) (F : ∀ base : Heap, K.In base → base.Ns mainGlobals mg → FnG P w K mg base CX k fa fd [x] sp)
    (bi : ∀ (s : Shared) (u : Value), BindsTo s fd ⟨[u], []⟩ [(x, u)]) (asked : ∀ H : Hp, Only H → SqL K H a (ns.map V.int) → sp [.ref a] H (fun v _ => v = .bl true) (fun _ _ _ => False)) (none_ : ∀ H e s', CX [] H s1 (fun _ _ _ => False) e s' → False) :
    codeAny (model P w) callerA (.call (.ref fa) ⟨[.ref a], []⟩) (fun r s' => r = .ok (.ret (.bool true)) ∧ OldK s1.heap s'.heap ∧ s'.os = s1.os ∧ AllBare s'.gens) s1 := by
  have rv := vals_ints hi
  have lv : ns.length = vs.length := by have := rv.length; rwa [List.length_map] at this
  rcases hk : K.lookup a with _ | o
  · have own : ∀ b, (fun b => if b = a then some (HO.frz { cls := .type "list", data := .seq vs.toArray } (.lst (ns.map V.int))) else none : Hp) b ≠ none → b = a := by
      intro b z
      by_cases e : b = a
      · exact e
      · exact absurd (if_neg e) z
    have here : (fun b => if b = a then some (HO.frz { cls := .type "list", data := .seq vs.toArray } (.lst (ns.map V.int))) else none : Hp) a = some (HO.frz { cls := .type "list", data := .seq vs.toArray } (.lst (ns.map V.int))) := if_pos rfl
    have only : Only (fun b => if b = a then some (HO.frz { cls := .type "list", data := .seq vs.toArray } (.lst (ns.map V.int))) else none) := by
      intro b
      by_cases e : b = a
      · subst e; exact .inr ⟨_, _, here⟩
      · exact .inl (if_neg e)
    refine core_end inK hns hb hbb lim hg ha hr F bi (asked _ only (.inl (.inr ⟨_, here⟩))) (none_ _) only (fun b u z => ?_) own (fun _ => hk)
    have e := own b (fun h0 => by have z2 : some u = none := z.symm.trans h0; cases z2)
    subst e
    have z := here.symm.trans z
    cases z
    exact ⟨ha, by rw [List.length_map]; exact hl, vs, _, rv, ha⟩
  · have e := inK a o hk
    rw [ha] at e
    have e' := Option.some.inj e
    subst e'
    exact core_end (H := fun _ => none) inK hns hb hbb lim hg ha hr F bi (asked _ (fun _ => .inl rfl) (.inr ⟨_, vs.toArray, _, hk, rfl, rfl, rfl, by rw [List.size_toArray, ← lv]; exact hl, by simpa using rv⟩)) (none_ _) (fun _ => .inl rfl) (fun b u z => by cases z) (fun b z => absurd rfl z) (fun z => absurd rfl z)
theorem walk_to {l : PySem.W.OpenLaw} {n k : Nat} {q : Program} {loose : List Str} {XP : (Str → Option Value) → Heap → Prop} {YP : World → Heap → Prop} {d : DefRec} {Kf : Params → PySem.W.Frag} {sp : PySem.W.Frag → Sp} {x : Str}
    (hn : l.most = some n) (hn2 : n ≤ sizeLine) (hdf : d.params.defaults = []) (hr : Room k callerA) (hY : ∀ (w : World) (h : Heap), YP w h → (Kf w.params).In h)
    (F : ∀ (w : World) (mg : Str → Option Value) (fa : Addr) (h : Heap), (Kf w.params).In h → h.Ns mainGlobals mg → mg d.name = some (.ref fa) →
      ∃ fd : FuncData, (∀ (s : Shared) (u : Value), BindsTo s fd ⟨[u], []⟩ [(x, u)]) ∧ ∀ base : Heap, (Kf w.params).In base → base.Ns mainGlobals mg → FnG l.prog w (Kf w.params) mg base CX0 k fa fd [x] (sp (Kf w.params)))
    (hsp : ∀ (K : PySem.W.Frag) (H : Hp) (a : Addr) (ns : List Int), ns.length ≤ n → SqL K H a (ns.map V.int) → sp K [.ref a] H (fun v _ => v = .bl true) (fun _ _ _ => False)) :
    PySem.W.WalkO q loose XP YP l.row.toRowW d [] (fun f vs => PySem.call f vs) := by
  apply Att.attach_call hn hdf
  intro w s0 s1 mg mb fa o pm cd doc a vs ns G Y _ _ _ hmg obj hInts few gens
  obtain ⟨fd, bi, hF⟩ := F w mg fa _ (hY w _ Y) G.T.g hmg
  exact law_end (hY w _ Y) G.T.g G.T.b G.T.builtins G.T.nolimit gens obj hInts (Nat.le_trans few hn2) hr hF bi (fun H _ S => hsp _ H a ns few S) (fun _ _ _ z => z)
end
end GL
/-! Rules and promises that the proofs of this program share. -/
namespace GL
open PySem PySem.Spec PyProof.Rows L2

/-- a def as it stands behind the top -/
structure Df (K : PySem.W.Frag) (mg : Str → Option Value) (x : Str) (st : Stmt) : Prop where
  ex : ∃ f fd, Fun K x x st f fd ∧ mg x = some (.ref f)
theorem df_mk {K : PySem.W.Frag} {h : Heap} {mg : Str → Option Value} {x : Str} {st : Stmt} {f : Addr} {oc : Value} {od an : Option Addr} {osl : Array (Option Value)} {kV doc pm cdv ct : Value} (X : K.In h) (G : h.Ns mainGlobals mg)
    (a : PySem.W.nsIn K mainGlobals x = some (some (.ref f))) (l : K.lookup f = some ⟨oc, od, .func (PySem.W.fnOf x x (defArgs st) (defBody st) (defScope st) .none kV doc pm an cdv ct), osl⟩)
    (c : PySem.W.codeIn K cdv x = true) (k : PySem.W.keepIn K (.ref f) = true) : Df K mg x st := ⟨f, _, fun_mk l c k, PySem.W.mg_of X G a⟩
section
variable {P : Program} {w : World} {K : PySem.W.Frag} {mg : Str → Option Value} {base : Heap}
theorem _root_.L2.Fun.g {x qual : Str} {st : Stmt} {N ps : List Str} {k : Nat} {sp : Sp} {f : Addr} {fd : FuncData} (F : Fun K x qual st f fd) (S : FnScope N ps (defScope st)) (len : ∀ vs H Q E, sp vs H Q E → vs.length = ps.length)
    (body : ∀ (cdv : Value) (A : Around) (outer : List Env) (s : Shared) (H : Hp) (vs : List V) (Q : VK) (E : XK), Gd (A.deeper (envOfC qual (defScope st) s.heap.objs.size f cdv)) → Room k (A.deeper (envOfC qual (defScope st) s.heap.objs.size f cdv)) → sp vs H Q E →
      ∃ t, PSs (cxOf CX0 P w K mg base N qual (defScope st) f cdv A outer s H E).nox (defBody st) t ∧ t { nx := fun _ H' => Q .non H', rt := Q } (start N vs) H) : FnG P w K mg base CX0 (k + 1) f fd ps sp := by
  refine fnG_mk F S len (fun cdv A outer s H vs Q E g hr q => ?_)
  obtain ⟨t, ht, q⟩ := body cdv A outer s H vs Q E g hr q
  exact ⟨t, ht.nox, q⟩
/-- a method, and the __init__ of a class, as they stand behind the top -/
structure Dm (K : PySem.W.Frag) (C : Addr) (m qual : Str) (st : Stmt) : Prop where
  ex : ∃ f fd, Fun K m qual st f fd ∧ Meth K C m f
structure Dc (K : PySem.W.Frag) (C : Addr) (qual : Str) (st : Stmt) : Prop where
  ex : ∃ f fd, Fun K "__init__" qual st f fd ∧ Mk K C f
theorem dm_mk {C f : Addr} {m qual : Str} {st : Stmt} {oc : Value} {od an : Option Addr} {osl : Array (Option Value)} {kV doc pm cdv ct : Value} (a : PySem.W.findIn K (.ref C) m = some (some (.ref f))) (i : PySem.W.isFn K (.ref f) = true)
    (l : K.lookup f = some ⟨oc, od, .func (PySem.W.fnOf m qual (defArgs st) (defBody st) (defScope st) .none kV doc pm an cdv ct), osl⟩) (c : PySem.W.codeIn K cdv qual = true) (k : PySem.W.keepIn K (.ref f) = true) : Dm K C m qual st :=
  ⟨f, _, fun_mk l c k, ⟨a, i, k⟩⟩
theorem dc_mk {C f : Addr} {qual : Str} {st : Stmt} {oc : Value} {od an : Option Addr} {osl : Array (Option Value)} {kV doc pm cdv ct : Value} (a : PySem.W.findIn K (.ref C) "__init__" = some (some (.ref f))) (i : PySem.W.isFn K (.ref f) = true)
    (l : K.lookup f = some ⟨oc, od, .func (PySem.W.fnOf "__init__" qual (defArgs st) (defBody st) (defScope st) .none kV doc pm an cdv ct), osl⟩) (c : PySem.W.codeIn K cdv qual = true) (k : PySem.W.keepIn K (.ref f) = true)
    (mk : PySem.W.makesIn K C = true) (kc : PySem.W.keepIn K (.ref C) = true) : Dc K C qual st :=
  ⟨f, _, fun_mk l c k, ⟨mk, a, i, kc⟩⟩
theorem Dm.has {C : Addr} {m qual : Str} {st : Stmt} {N ps : List Str} {k : Nat} {sp : Sp} (D : Dm K C m qual st) (S : FnScope N ps (defScope st)) (len : ∀ vs H Q E, sp vs H Q E → vs.length = ps.length)
    (bi : ∀ (kV doc pm : Value) (an : Option Addr) (cdv ct : Value) (us : List Value), us.length = ps.length → bindArgs (PySem.W.fnOf m qual (defArgs st) (defBody st) (defScope st) .none kV doc pm an cdv ct) ⟨us, []⟩ = pure (ps.zip us))
    (body : ∀ (f : Addr) (cdv : Value) (A : Around) (outer : List Env) (s : Shared) (H : Hp) (vs : List V) (Q : VK) (E : XK), Gd (A.deeper (envOfC qual (defScope st) s.heap.objs.size f cdv)) → Room k (A.deeper (envOfC qual (defScope st) s.heap.objs.size f cdv)) → sp vs H Q E →
      ∃ t, PSs (cxOf CX0 P w K mg base N qual (defScope st) f cdv A outer s H E).nox (defBody st) t ∧ t { nx := fun _ H' => Q .non H', rt := Q } (start N vs) H) : HasM P w K mg base CX0 C m (k + 1) ps sp := by
  obtain ⟨f, fd, F, M⟩ := D.ex
  exact ⟨f, fd, F.g S len (body f), M, F.binds bi⟩
theorem Dc.has {C : Addr} {x qual : Str} {st : Stmt} {N ps : List Str} {k : Nat} {sp : Sp} (D : Dc K C qual st) (m : mg x = some (.ref C)) (S : FnScope N ps (defScope st)) (len : ∀ vs H Q E, sp vs H Q E → vs.length = ps.length)
    (bi : ∀ (kV doc pm : Value) (an : Option Addr) (cdv ct : Value) (us : List Value), us.length = ps.length → bindArgs (PySem.W.fnOf "__init__" qual (defArgs st) (defBody st) (defScope st) .none kV doc pm an cdv ct) ⟨us, []⟩ = pure (ps.zip us))
    (body : ∀ (f : Addr) (cdv : Value) (A : Around) (outer : List Env) (s : Shared) (H : Hp) (vs : List V) (Q : VK) (E : XK), Room k (A.deeper (envOfC qual (defScope st) s.heap.objs.size f cdv)) → sp vs H Q E →
      ∃ t, PSs (cxOf CX0 P w K mg base N qual (defScope st) f cdv A outer s H E).nox (defBody st) t ∧ t { nx := fun _ H' => Q .non H', rt := Q } (start N vs) H) : HasC P w K mg base x C (k + 1) ps sp := by
  obtain ⟨f, fd, F, M⟩ := D.ex
  exact ⟨f, fd, F.ok S len (body f), m, M, F.binds bi⟩
theorem Df.has {x : Str} {st : Stmt} {N ps : List Str} {k : Nat} {sp : Sp} (D : Df K mg x st) (S : FnScope N ps (defScope st)) (len : ∀ vs H Q E, sp vs H Q E → vs.length = ps.length)
    (bi : ∀ (kV doc pm : Value) (an : Option Addr) (cdv ct : Value) (us : List Value), us.length = ps.length → bindArgs (PySem.W.fnOf x x (defArgs st) (defBody st) (defScope st) .none kV doc pm an cdv ct) ⟨us, []⟩ = pure (ps.zip us))
    (body : ∀ (f : Addr) (cdv : Value) (A : Around) (outer : List Env) (s : Shared) (H : Hp) (vs : List V) (Q : VK) (E : XK), Gd (A.deeper (envOfC x (defScope st) s.heap.objs.size f cdv)) → Room k (A.deeper (envOfC x (defScope st) s.heap.objs.size f cdv)) → sp vs H Q E →
      ∃ t, PSs (cxOf CX0 P w K mg base N x (defScope st) f cdv A outer s H E).nox (defBody st) t ∧ t { nx := fun _ H' => Q .non H', rt := Q } (start N vs) H) : Has P w K mg base CX0 x (k + 1) ps sp := by
  obtain ⟨f, fd, F, m⟩ := D.ex
  exact ⟨f, fd, F.g S len (body f), m, F.kp, F.binds bi⟩
/-- the law's own def, for the end -/
theorem Df.law {x : Str} {st : Stmt} {p : Str} {k : Nat} {sp : Sp} {fa : Addr} (D : Df K mg x st) (m : mg x = some (.ref fa)) (S : ∀ base : Heap, K.In base → base.Ns mainGlobals mg → ∀ f fd, Fun K x x st f fd → FnG P w K mg base CX0 k f fd [p] sp)
    (bi : ∀ (kV doc pm : Value) (an : Option Addr) (cdv ct : Value) (u : Value), bindArgs (PySem.W.fnOf x x (defArgs st) (defBody st) (defScope st) .none kV doc pm an cdv ct) ⟨[u], []⟩ = pure [(p, u)]) :
    ∃ fd : FuncData, (∀ (s : Shared) (u : Value), BindsTo s fd ⟨[u], []⟩ [(p, u)]) ∧ ∀ base : Heap, K.In base → base.Ns mainGlobals mg → FnG P w K mg base CX0 k fa fd [p] sp := by
  obtain ⟨f, fd, F, m'⟩ := D.ex
  rw [m] at m'
  cases m'
  obtain ⟨oc, od, kV, doc, pm, an, cdv, ct, osl, eF, at_, cR⟩ := F.ex
  exact ⟨fd, fun s u => by subst eF; exact .of_eq (bi kV doc pm an cdv ct u), fun base kin hns => S base kin hns _ _ F⟩
end

/-- what a name of the module holds -/
def MgV (mg : Str → Option Value) (x : Str) (v : V) : Prop := ∃ u, mg x = some u ∧ RelV v u
theorem pe_globV {X : Cx} {x : Str} {v : V} {pos : Pos} (h : MgV X.mg x v) (hg : Gl X x := by exact rfl) (hd : (x == ("__debug__" : Str)) = false := by decide) : PE X (.Name x pos) (tC v) := by
  obtain ⟨u, m, r⟩ := h
  exact pe_glob hg m r hd

/-! ### repr of data -/
def rRepr (K : PySem.W.Frag) : List V → Hp → VK → Prop := fun xs H Q => ∃ x d, xs = [x] ∧ Dp K H x d ∧ d.showable = true ∧ d.hasDict = false ∧ d.depth ≤ 20 ∧ d.shown.length ≤ sizeLine ∧ Q (.str d.shown) H
theorem call_repr {X : Cx} (hg : Gd X.A) (hu : X.A.units + 64 < cLine) : CallR X (.builtin "repr") (rRepr X.K) := by
  intro pins s σ H xs us Q I r h
  obtain ⟨x, d, rfl, hd, hs, hn, hp, hz, q⟩ := h
  obtain ⟨u, rfl, r1⟩ := vals1 r
  have hh : ∀ v, RelV x v → ∃ as, Reads s.heap v d as := fun v rv => Dp.reads I d x v hd rv
  obtain ⟨as, hr⟩ := hh u r1
  cases d with
  | none => cases hr; exact PySem.P.repr_of_none ⟨.str _, H, I.tok _, ⟨_, rfl⟩, q⟩
  | bool b => cases hr; exact PySem.P.repr_of_bool ⟨.str _, H, I.tok _, ⟨_, rfl⟩, q⟩
  | int i => cases hr; exact PySem.P.repr_of_int (by simpa [PyData.showable] using hs) ⟨.str _, H, I.tok _, ⟨_, rfl⟩, q⟩
  | str y => cases hr; exact PySem.P.repr_of_str ⟨.str _, H, I.tok _, ⟨_, rfl⟩, q⟩ hz
  | list ds =>
    obtain ⟨a, rfl⟩ := isRef_of_reads hr rfl
    exact repr_of_reads' hr hs (PyData.noDict_hsm hn) hg (by omega) (fun _ _ e => e) (fun h' u tk hk => ⟨.str _, H, I.kept hk, ⟨_, rfl⟩, q⟩) hz
  | tuple ds =>
    obtain ⟨a, rfl⟩ := isRef_of_reads hr rfl
    exact repr_of_reads' hr hs (PyData.noDict_hsm hn) hg (by omega) (fun _ _ e => e) (fun h' u tk hk => ⟨.str _, H, I.kept hk, ⟨_, rfl⟩, q⟩) hz
  | dict kvs => cases hd

/-! ### values of expressions that change nothing -/
def Vl (te : TE) (σ : L2.St) (v : V) : Prop := ∀ (H : Hp) (Q : VK), Q v H → te σ H Q
theorem vl_and {ta tb : TE} {σ : L2.St} {a b : Bool} (ha : Vl ta σ (.bl a)) (hb : a = true → Vl tb σ (.bl b)) : Vl (tAndV ta tb) σ (.bl (a && b)) := by
  intro H Q q
  refine ha H _ ⟨a, rfl, ?_⟩
  cases a with
  | true => exact iteT (hb rfl H _ q)
  | false => exact iteF q
theorem vl_or {ta tb : TE} {σ : L2.St} {a b : Bool} (ha : Vl ta σ (.bl a)) (hb : a = false → Vl tb σ (.bl b)) : Vl (tOrV ta tb) σ (.bl (a || b)) := by
  intro H Q q
  refine ha H _ ⟨a, rfl, ?_⟩
  cases a with
  | true => exact iteT q
  | false => exact iteF (hb rfl H _ q)

/-! ### in a tuple of data, whatever the depth -/
def rInT (K : PySem.W.Frag) : R2 := fun x y H Q => ∃ d ds, Dp K H x d ∧ Dp K H y (.tuple ds) ∧ SeqAt.shaped d = true ∧ SeqAt.shaped (.tuple ds) = true ∧ Q (.bl (ds.any fun z => PyData.eqv z d)) H
theorem op_inT {X : Cx} (hu : X.A.units + 66 < cLine) : OpR X (compareOp .In) (rInT X.K) := by
  intro pins s σ H x y v u Q I rx ry asked
  obtain ⟨d, ds, hd, he, sd, se, q⟩ := asked
  obtain ⟨_, r1⟩ := Dp.reads I d x v hd rx
  obtain ⟨_, r2⟩ := Dp.reads I (.tuple ds) y u he ry
  have z := SeqAt.depth_of_shaped sd
  exact SeqAt.in_tuple_reads r2 r1 (SeqAt.canLay_of_shaped se) (SeqAt.canLay_of_shaped sd) (by have := Nat.min_le_right (PyData.depthAll ds) d.depth; omega) ⟨.bl _, H, I, rfl, q⟩

/-! ### how many different ints -/
def dist (ns : List Int) : Nat := (ns.foldl PyProof.Rows.step_dedup []).length
theorem range_getD (ns : List Int) : (List.range ns.length).map (fun i => ns.getD i 0) = ns := by
  apply List.ext_getElem
  · rw [List.length_map, List.length_range]
  · intro i h1 h2
    rw [List.getElem_map, List.getElem_range, List.getD_eq_getElem?_getD, List.getElem?_eq_getElem h2]
    rfl
def tLenSet (K : PySem.W.Frag) (ta : TE) : TE := fun σ H Q => ta σ H fun x H1 => ∃ (l : Addr) (ns : List Int), x = .ref l ∧ SqL K H1 l (ns.map V.int) ∧ ns.length < 64 ∧ Q (.int (dist ns : Nat)) H1
theorem pe_lenSet {X : Cx} {a : Expr} {ta : TE} {p p2 q pos : Pos} (hm : X.mg "len" = none) (hm2 : X.mg "set" = none) (ha : PE X a ta) (hg : Gl X "len" := by exact rfl) (hg2 : Gl X "set" := by exact rfl) (hc : X.calm = true := by rfl)
    (na : starEach [a] X.env = (false, eval a X.env) :: starEach [] X.env := by rfl) : PE X (.Call (.Name "len" p) [.Call (.Name "set" p2) [a] [] q] [] pos) (tLenSet X.K ta) := by
  constructor
  intro pins s σ H Q I asked
  refine Call_ ?_
  apply ld_blt I hg hm PySem.boot_len
  apply PyProof.Rows.callWith_builtin1 _ rfl rfl
  apply PyProof.Rows.args_cons _ rfl
  refine Call_ ?_
  apply ld_blt I hg2 hm2 PyProof.Rows.boot_set
  refine PyProof.Rows.callWith_type1 (PyProof.Rows.args_cons (thn (ha.run pins s σ H _ I asked) (fun v s1 z => PyProof.Rows.args_nil ?_)) na) na rfl
  obtain ⟨x, H1, I1, r1, l, ns, ex, hq, small, q1⟩ := z
  subst ex
  cases (show v = Value.ref l from r1)
  obtain ⟨its, r, pl, _⟩ := I1.list hq
  have size : its.toArray.size = ns.length := by have := r.length; rw [List.length_map] at this; rw [List.size_toArray, this]
  refine call_set_list (I1.ok.hd hc) pl.isList (ns := ns) (by simpa using r.ints) (by rw [size]; unfold scanBound; omega) (fun h' tk hS hk => ?_)
  apply PyProof.Rows.args_nil
  have e : (PyProof.Rows.firstMet (fun i => ns.getD i 0) its.toArray.size).length = dist ns := by
    rw [size]
    unfold PyProof.Rows.firstMet dist
    rw [range_getD]
  have few : dist ns ≤ ns.length := by rw [← e, size]; exact PyProof.Rows.firstMet_length_le _ _
  obtain ⟨o, es, ep, t, ho, hex, hd, _, _, _, hf, hn⟩ := hS
  rw [e] at hn
  have I2 : Inv X pins σ H1 { s1 with heap := h', toks := tk } := I1.kept (fun b o e => hk b o (Heap.lt_size e) e)
  exact call_len_set ho hex hd hf (by rw [hn]; omega) ⟨.int (dist ns : Nat), H1, I2.tok _, ⟨_, by rw [hn]⟩, q1⟩

/-! ### great powers -/
def CPowW (i j : Int) : Prop := 0 ≤ j ∧ (Builtin.Int.intBits i : Int) * j ≤ 2 ^ 27
theorem op_powW {X : Cx} : OpR X (binaryOp .Pow) (rI CPowW fun i j => .int (i ^ j.toNat)) := opI fun _ _ _ _ _ _ _ hc q => pow_int hc.1 hc.2 q

/-! ### kinds of values -/
inductive Kd where | non | bl | int | str | lst | tup | dct
def Kd.nm : Kd → String
  | .non => "NoneType" | .bl => "bool" | .int => "int" | .str => "str" | .lst => "list" | .tup => "tuple" | .dct => "dict"
def Kd.isB : Kd → Bool | .bl => true | _ => false
def Kd.isI : Kd → Bool | .bl => true | .int => true | _ => false
def Kd.isS : Kd → Bool | .str => true | _ => false
def Kd.isT : Kd → Bool | .tup => true | _ => false
theorem kit_bool {K : PySem.W.Frag} (k : Kd) : PySem.W.kitOne K (.type k.nm) (.type "bool") = some k.isB := by cases k <;> exact kit_ty (by decide +kernel)
theorem kit_int {K : PySem.W.Frag} (k : Kd) : PySem.W.kitOne K (.type k.nm) (.type "int") = some k.isI := by cases k <;> exact kit_ty (by decide +kernel)
theorem kit_str {K : PySem.W.Frag} (k : Kd) : PySem.W.kitOne K (.type k.nm) (.type "str") = some k.isS := by cases k <;> exact kit_ty (by decide +kernel)
theorem kit_tup {K : PySem.W.Frag} (k : Kd) : PySem.W.kitOne K (.type k.nm) (.type "tuple") = some k.isT := by cases k <;> exact kit_ty (by decide +kernel)
/-- a value of a kind -/
def Of (K : PySem.W.Frag) (H : Hp) (x : V) (k : Kd) : Prop := TyX K H x (.type k.nm)
theorem Of.bl {K : PySem.W.Frag} {H : Hp} {b : Bool} : Of K H (.bl b) .bl := .base (.bl b)
theorem Of.int {K : PySem.W.Frag} {H : Hp} {i : Int} : Of K H (.int i) .int := .base (.int i)
theorem Of.str {K : PySem.W.Frag} {H : Hp} {y : Str} : Of K H (.str y) .str := .base (.str y)
theorem Of.non {K : PySem.W.Frag} {H : Hp} : Of K H .non .non := .base .non
theorem Of.lst {K : PySem.W.Frag} {H : Hp} {a : Addr} {xs : List V} (h : H a = some (.lst xs)) : Of K H (.ref a) .lst := .base (.lst h)
theorem Of.tup {K : PySem.W.Frag} {H : Hp} {a : Addr} {xs : List V} (h : H a = some (.tup xs)) : Of K H (.ref a) .tup := .base (.tup h)
theorem Of.dct {K : PySem.W.Frag} {H : Hp} {a : Addr} {xs : List (Key × V)} (h : H a = some (.dK xs)) : Of K H (.ref a) .dct := .base (.dK h)
theorem Of.blI {K : PySem.W.Frag} {H : Hp} {x : V} (h : Of K H x .bl) : ∃ i, x = .bl i := by
  have e : Value.type (Kd.nm .bl) = .type "bool" := rfl
  unfold Of at h
  rw [e] at h
  generalize ht : Value.type "bool" = t at h
  cases h with
  | base b => cases b <;> first | exact ⟨_, rfl⟩ | exact absurd ht (by decide +kernel) | (exact absurd ht (by intro z; cases z))
  | byt b => exact absurd ht (by decide +kernel)
  | set _ => exact absurd ht (by decide +kernel)
  | kList _ _ => exact absurd ht (by decide +kernel)
  | kTuple _ _ => exact absurd ht (by decide +kernel)
  | kDict _ _ => exact absurd ht (by decide +kernel)
  | fTuple _ => exact absurd ht (by decide +kernel)
  | fDict _ => exact absurd ht (by decide +kernel)
theorem Of.intI {K : PySem.W.Frag} {H : Hp} {x : V} (h : Of K H x .int) : ∃ i, x = .int i := by
  have e : Value.type (Kd.nm .int) = .type "int" := rfl
  unfold Of at h
  rw [e] at h
  generalize ht : Value.type "int" = t at h
  cases h with
  | base b => cases b <;> first | exact ⟨_, rfl⟩ | exact absurd ht (by decide +kernel) | (exact absurd ht (by intro z; cases z))
  | byt b => exact absurd ht (by decide +kernel)
  | set _ => exact absurd ht (by decide +kernel)
  | kList _ _ => exact absurd ht (by decide +kernel)
  | kTuple _ _ => exact absurd ht (by decide +kernel)
  | kDict _ _ => exact absurd ht (by decide +kernel)
  | fTuple _ => exact absurd ht (by decide +kernel)
  | fDict _ => exact absurd ht (by decide +kernel)
theorem Of.strI {K : PySem.W.Frag} {H : Hp} {x : V} (h : Of K H x .str) : ∃ i, x = .str i := by
  have e : Value.type (Kd.nm .str) = .type "str" := rfl
  unfold Of at h
  rw [e] at h
  generalize ht : Value.type "str" = t at h
  cases h with
  | base b => cases b <;> first | exact ⟨_, rfl⟩ | exact absurd ht (by decide +kernel) | (exact absurd ht (by intro z; cases z))
  | byt b => exact absurd ht (by decide +kernel)
  | set _ => exact absurd ht (by decide +kernel)
  | kList _ _ => exact absurd ht (by decide +kernel)
  | kTuple _ _ => exact absurd ht (by decide +kernel)
  | kDict _ _ => exact absurd ht (by decide +kernel)
  | fTuple _ => exact absurd ht (by decide +kernel)
  | fDict _ => exact absurd ht (by decide +kernel)
/-- a value that is no int -/
theorem Of.notInt {K : PySem.W.Frag} {H : Hp} {i : Int} {k : Kd} (h : Of K H (.int i) k) : k = .int := by
  unfold Of at h
  generalize ht : Value.type k.nm = t at h
  cases h with
  | base b =>
    cases b
    cases k <;> first | rfl | exact absurd ht (by decide +kernel)
theorem Of.notStr {K : PySem.W.Frag} {H : Hp} {i : Str} {k : Kd} (h : Of K H (.str i) k) : k = .str := by
  unfold Of at h
  generalize ht : Value.type k.nm = t at h
  cases h with
  | base b =>
    cases b
    cases k <;> first | rfl | exact absurd ht (by decide +kernel)

/-! ### the dice: a list of three ints, the first of them not below nought -/
def Die (H : Hp) (p : Addr) : Prop := ∃ l b c : Int, 0 ≤ l ∧ H p = some (.lst [.int l, .int b, .int c])
/-- all but the dice at p is as it was -/
structure Got (p : Addr) (H H' : Hp) : Prop where
  keep : ∀ b o, H b = some o → b ≠ p → H' b = some o
  die : Die H' p
theorem Got.same {p : Addr} {H : Hp} (d : Die H p) : Got p H H := ⟨fun _ _ e _ => e, d⟩
theorem Got.trans {p : Addr} {H H1 H2 : Hp} (a : Got p H H1) (b : Got p H1 H2) : Got p H H2 := ⟨fun c o e n => b.keep c o (a.keep c o e n) n, b.die⟩
theorem Got.roll {p : Addr} {H : Hp} {l b c : Int} (h : 0 ≤ l) : Got p H (upd H p (.lst [.int l, .int b, .int c])) := ⟨fun d o e n => by rw [upd_ne n]; exact e, l, b, c, h, upd_same⟩
theorem Got.new {p q : Addr} {H : Hp} {o : HO} (d : Die H p) (n : H q = none) : Got p H (upd H q o) := by
  obtain ⟨l, b, c, l0, e⟩ := d
  exact ⟨fun x u z _ => by rw [upd_ne (ne_of_none z n)]; exact z, l, b, c, l0, by rw [upd_ne (ne_of_none e n)]; exact e⟩
theorem Got.free {p q : Addr} {H H' : Hp} (g : Got p H H') (d : Die H p) (n : H' q = none) : H q = none := by
  cases e : H q with
  | none => rfl
  | some o =>
    obtain ⟨l, b, c, _, ep⟩ := g.die
    by_cases z : q = p
    · rw [z, ep] at n; cases n
    · rw [g.keep q o e z] at n; cases n
theorem Got.over {p t : Addr} {H H' : Hp} (g : Got p H H') (d : Die H p) (n : H t = none) (u : HO) : Got p H (upd H' t u) := by
  refine ⟨fun b o e z => by rw [upd_ne (ne_of_none e n)]; exact g.keep b o e z, ?_⟩
  obtain ⟨l, b, c, l0, e⟩ := g.die
  obtain ⟨_, _, _, _, e0⟩ := d
  exact ⟨l, b, c, l0, by rw [upd_ne (ne_of_none e0 n)]; exact e⟩
theorem new_keep {H : Hp} {a p : Addr} {o u : HO} (h : H a = some o) (n : H p = none) : upd H p u a = some o := by rw [upd_ne (ne_of_none h n)]; exact h
theorem new_keep2 {H : Hp} {a p : Addr} {o u u' : HO} (h : H a = some o) (n : H p = none) : upd (upd H p u) p u' a = some o := by rw [upd_ne (ne_of_none h n), upd_ne (ne_of_none h n)]; exact h
theorem Die.ne {p q : Addr} {H : Hp} (d : Die H p) (n : H q = none) : p ≠ q := by
  obtain ⟨l, b, c, _, e⟩ := d
  exact ne_of_none e n
end GL
namespace GL
open PySem PySem.Spec PyProof.Rows L2
variable {K : PySem.W.Frag}
@[irreducible] def B : Int := 10 ^ 400
theorem B_eq : (B : Int) = 10 ^ 400 := by unfold B; rfl
def isIntV : V → Bool
  | .int i => decide (-B < i) && decide (i < B)
  | _ => false
def spIsInt (K : PySem.W.Frag) : Sp := fun vs H Q _ => ∃ x k, vs = [x] ∧ Of K H x k ∧ Q (.bl (isIntV x)) H
def isCountV : V → Bool
  | .int i => isIntV (.int i) && decide (0 ≤ i)
  | _ => false
def spIsCount (K : PySem.W.Frag) : Sp := fun vs H Q _ => ∃ x k, vs = [x] ∧ Of K H x k ∧ Q (.bl (isCountV x)) H
theorem one_sign {y : Str} (h : y.length = 1) : ∃ c, y = ⟨#[c]⟩ := by
  obtain ⟨⟨l⟩⟩ := y
  match l, h with
  | [c], _ => exact ⟨c, rfl⟩
def spRoll : Sp := fun vs H Q _ => ∃ p t, vs = [.ref p, .int t] ∧ Die H p ∧ 0 < t ∧ t.natAbs < 2 ^ 2000 ∧ ∀ r H', 0 ≤ r → r < t → Got p H H' → Q (.int r) H'
theorem at_ints {ns : List Int} {i : Int} (h0 : 0 ≤ i) (h1 : i < ns.length) : ∃ n, atI (ns.map V.int) i = some (.int n) := by
  obtain ⟨j, rfl⟩ : ∃ j : Nat, i = (j : Int) := ⟨i.toNat, by omega⟩
  have hj : j < ns.length := by omega
  exact ⟨ns[j], atI_nat (by rw [List.getElem?_map, List.getElem?_eq_getElem hj]; rfl)⟩
def spDice (K : PySem.W.Frag) : Sp := fun vs H Q _ => ∃ (a : Addr) (ns : List Int) (spot : Int), vs = [.ref a, .int spot] ∧ SqL K H a (ns.map V.int) ∧ 0 ≤ spot ∧ ∀ p H', H p = none → Same H H' → Die H' p → Q (.ref p) H'
def spPick : Sp := fun vs H Q _ => ∃ (p q : Addr) (xs : List V), vs = [.ref p, .ref q] ∧ Die H p ∧ (H q = some (.lst xs) ∨ H q = some (.tup xs)) ∧ q ≠ p ∧ 0 < xs.length ∧ xs.length ≤ 1000 ∧ ∀ v H', v ∈ xs → Got p H H' → Q v H'
def spLimit : Sp := fun vs H Q _ => vs = [] ∧ Q (.int B) H
theorem int_short {n : Int} : isIntV (.int n) = decide (n.natAbs < 10 ^ 400) := by
  have e : (10 : Int) ^ 400 = ((10 ^ 400 : Nat) : Int) := by rw [Int.natCast_pow]; rfl
  show (decide (-B < n) && decide (n < B)) = _
  rw [B_eq, e]
  generalize (10 ^ 400 : Nat) = N
  rw [Bool.eq_iff_iff]
  simp only [Bool.and_eq_true, decide_eq_true_eq]
  omega

theorem _root_.GL.Of.same {H H' : Hp} {x : V} {k : Kd} (h : Of K H x k) (s : Same H H') : Of K H' x k := by
  unfold Of at h ⊢
  generalize Value.type k.nm = t at h ⊢
  cases h with
  | base b =>
    cases b with
    | non => exact .base .non
    | bl x => exact .base (.bl x)
    | int i => exact .base (.int i)
    | str y => exact .base (.str y)
    | flt y => exact .base (.flt y)
    | lst e => exact .base (.lst (s _ _ e))
    | frz e => exact .base (.frz (s _ _ e))
    | tup e => exact .base (.tup (s _ _ e))
    | dK e => exact .base (.dK (s _ _ e))
    | dT e => exact .base (.dT (s _ _ e))
    | ins e a b c d e2 => exact .base (.ins (s _ _ e) a b c d e2)
  | byt b => exact .byt b
  | set e => exact .set (s _ _ e)
  | kList e c => exact .kList e c
  | kTuple e c => exact .kTuple e c
  | kDict e c => exact .kDict e c
  | fTuple e => exact .fTuple (s _ _ e)
  | fDict e => exact .fDict (s _ _ e)
/-- what is told of a value as a point -/
def PtV (K : PySem.W.Frag) (H : Hp) (x : V) (r : Bool) : Prop := ∃ k, Of K H x k ∧ (k.isT = false → r = false) ∧
  (k.isT = true → ∃ a xs, x = .ref a ∧ SqT K H a xs ∧ xs.length ≤ 1000 ∧ (xs.length ≠ 2 → r = false) ∧ (xs.length = 2 → ∃ u v ku kv, xs = [u, v] ∧ Of K H u ku ∧ Of K H v kv ∧ r = (isIntV u && isIntV v)))
def spIsPoint (K : PySem.W.Frag) : Sp := fun vs H Q _ => ∃ x r, vs = [x] ∧ PtV K H x r ∧ Q (.bl r) H
theorem ptTup2 {H : Hp} {a : Addr} {u v : V} {ku kv : Kd} (h : H a = some (.tup [u, v])) (hu : Of K H u ku) (hv : Of K H v kv) : PtV K H (.ref a) (isIntV u && isIntV v) :=
  ⟨.tup, .tup h, (fun z => nomatch z), fun _ => ⟨a, _, rfl, SqT.of h, (by show 2 ≤ 1000; decide), fun z => absurd rfl z, fun _ => ⟨u, v, ku, kv, rfl, hu, hv, rfl⟩⟩⟩
theorem ptTupN {H : Hp} {a : Addr} {xs : List V} (h : H a = some (.tup xs)) (l : xs.length ≤ 1000) (n : xs.length ≠ 2) : PtV K H (.ref a) false :=
  ⟨.tup, .tup h, (fun z => nomatch z), fun _ => ⟨a, _, rfl, SqT.of h, l, fun _ => rfl, fun z => absurd z n⟩⟩
theorem ptNo {H : Hp} {x : V} {k : Kd} (h : Of K H x k) (e : k.isT = false) : PtV K H x false := ⟨k, h, fun _ => rfl, fun z => by rw [e] at z; cases z⟩
def spPart : Sp := fun vs H Q _ => ∃ p, vs = [.ref p] ∧ Die H p ∧ ∀ n H', isIntV (.int n) = true → Got p H H' → Q (.int n) H'
def spMixed : Sp := fun vs H Q _ => ∃ (p q : Addr) (xs : List V), vs = [.ref p, .ref q] ∧ Die H p ∧ H q = some (.lst xs) ∧ q ≠ p ∧ xs.length ≤ 1000 ∧ ∀ l ys H', H l = none → l ≠ p → ys.length = xs.length → (∀ v ∈ ys, v ∈ xs) → H' l = some (.lst ys) → Got p H H' → Q (.ref l) H'

theorem Same.new {H : Hp} {p : Addr} {o : HO} (n : H p = none) : Same H (upd H p o) := fun b u e => by rw [upd_ne (ne_of_none e n)]; exact e
theorem Same.over {H H' : Hp} {p : Addr} (s : Same H H') (n : H p = none) (o : HO) : Same H (upd H' p o) := fun b u e => by rw [upd_ne (ne_of_none e n)]; exact s b u e
/-! ### lists of truth values -/
def bls (bs : List Bool) : PyData := .list (bs.map .bool)
theorem bls_dp {K : PySem.W.Frag} {H : Hp} : ∀ {bs : List Bool}, DpAll K H (bs.map V.bl) (bs.map .bool)
  | [] => .nil
  | b :: _ => .cons (.bl b) bls_dp
theorem bls_at {K : PySem.W.Frag} {H : Hp} {l : Addr} {bs : List Bool} (h : H l = some (.lst (bs.map V.bl))) : Dp K H (.ref l) (bls bs) := .lst (SqL.of h) bls_dp
theorem bls_eqv (bs : List Bool) : PyData.eqv (bls bs) (bls bs) = true := by
  show PyData.eqvAll (bs.map .bool) (bs.map .bool) = true
  induction bs with
  | nil => rfl
  | cons b r ih => rw [List.map_cons, PyData.eqvAll, ih]; cases b <;> rfl
theorem b4_ok (x y z u : Bool) : (bls [x, y, z, u]).showable = true ∧ (bls [x, y, z, u]).hasDict = false ∧ (bls [x, y, z, u]).depth ≤ 20 ∧ (bls [x, y, z, u]).shown.length ≤ sizeLine := by
  cases x <;> cases y <;> cases z <;> cases u <;> exact ⟨by decide +kernel, by decide +kernel, by decide +kernel, by decide +kernel⟩
theorem b4_shaped (x y z u : Bool) : SeqAt.shaped (bls [x, y, z, u]) = true := by cases x <;> cases y <;> cases z <;> cases u <;> decide +kernel
theorem few_of {n k : Nat} (hk : 1 ≤ k) (z : Int) (hz : (if (if (n : Int) < k then (n : Int) else k) > 1 then (if (n : Int) < k then (n : Int) else k) else 1) = z) : 0 ≤ z ∧ z ≤ k := by
  subst hz
  constructor <;> (split <;> (try split) <;> omega)
theorem seq_got {K : PySem.W.Frag} {a p : Addr} {xs : List V} {H0 H1 H' : Hp} (h : SqL K H0 a xs) (np : H0 p = none) (same : Same H0 H1) (g : Got p H1 H') : SqL K H' a xs := by
  have kp : ∀ o, H0 a = some o → H' a = some o := fun o e => g.keep a o (same a o e) (ne_of_none e np)
  rcases h with (z | ⟨o, z⟩) | z
  · exact .inl (.inl (kp _ z))
  · exact .inl (.inr ⟨o, kp _ z⟩)
  · exact .inr z
theorem take_map {α β : Type} {f : α → β} {l : List α} {i : Nat} {x : α} (h : l[i]? = some x) : (l.take i).map f ++ [f x] = (l.take (i + 1)).map f := by
  rw [List.take_add_one, h, List.map_append]
  rfl
theorem four {l : List V} (h : l.length = 4) : ∃ a b c d, l = [a, b, c, d] := by
  match l, h with
  | [a, b, c, d], _ => exact ⟨a, b, c, d, rfl⟩
end GL
namespace GL
open PySem PySem.Spec PyProof.Rows L2
/-! ### the two grids: false is the square one, true the other -/
def nm : Bool → Str | false => "square" | true => "triangle"
def num : Bool → Nat | false => 4 | true => 6
def sl : Bool → Int | false => 0 | true => 1
def ux : Bool → List (Int × Int)
  | false => [(1, 0), (0, 1), (-1, 0), (0, -1)]
  | true => [(1, 0), (0, 1), (-1, 1), (-1, 0), (0, -1), (1, -1)]
def mul (t : Bool) (u v : Int × Int) : Int × Int := (u.1 * v.1 - u.2 * v.2, u.1 * v.2 + u.2 * v.1 + sl t * (u.2 * v.2))
def nrm (t : Bool) (u : Int × Int) : Int := u.1 * u.1 + sl t * u.1 * u.2 + u.2 * u.2
def flip (t : Bool) (u : Int × Int) : Int × Int := (u.1 + sl t * u.2, -u.2)
def uni (t : Bool) (k : Int) : Int × Int := (ux t).getD (k % (num t : Int)).toNat (0, 0)
/-- what of the grids stands in the text -/
structure Uni (K : PySem.W.Frag) (w : World) (aG dU : Addr) (U : Bool → Addr) (us : Bool → List Addr) : Prop where
  grids : ∀ H, SqT K H aG [.str "square", .str "triangle"]
  key : ∀ t, KDct K w dU (nm t) (.ref (U t))
  tup : ∀ t H, SqT K H (U t) ((us t).map V.ref)
  len : ∀ t, (us t).length = num t
  pt : ∀ t (i : Nat) a p, (us t)[i]? = some a → (ux t)[i]? = some p → ∀ H, SqT K H a [.int p.1, .int p.2]
def gF (U : Bool → Addr) (t : Bool) : List (Str × V) := [("name", .str (nm t)), ("units", .ref (U t)), ("half", .int ((num t : Int) / 2)), ("slant", .int (sl t))]
def GridAt (C : Addr) (U : Bool → Addr) (H : Hp) (g : Addr) (t : Bool) : Prop := ∃ dx, H g = some (.ins C dx (gF U t))
structure GCls (K : PySem.W.Frag) (C : Addr) : Prop where
  cls : Cls K C
  name : NoAttr K C "name"
  units : NoAttr K C "units"
  half : NoAttr K C "half"
  slant : NoAttr K C "slant"
theorem put2 {a b : Str} {x y : V} (h : ¬ a = b) : putF b y [(a, x)] = [(a, x), (b, y)] := by
  show (if a = b then _ else (a, x) :: putF b y []) = _
  rw [if_neg h]
  rfl
theorem put3 {a b c : Str} {x y z : V} (h1 : ¬ a = c) (h2 : ¬ b = c) : putF c z [(a, x), (b, y)] = [(a, x), (b, y), (c, z)] := by
  show (if a = c then _ else (a, x) :: putF c z [(b, y)]) = _
  rw [if_neg h1, put2 h2]
theorem put4 {a b c d : Str} {x y z u : V} (h1 : ¬ a = d) (h2 : ¬ b = d) (h3 : ¬ c = d) : putF d u [(a, x), (b, y), (c, z)] = [(a, x), (b, y), (c, z), (d, u)] := by
  show (if a = d then _ else (a, x) :: putF d u [(b, y), (c, z)]) = _
  rw [if_neg h1, put3 h2 h3]
variable {K : PySem.W.Frag} {C : Addr} {U : Bool → Addr} {us : Bool → List Addr} {t : Bool}
theorem gF_units : (gF U t).lookup ("units" : Str) = some (.ref (U t)) := by unfold gF; cases t <;> rfl
theorem gF_slant : (gF U t).lookup ("slant" : Str) = some (.int (sl t)) := by unfold gF; cases t <;> rfl
theorem gF_half : (gF U t).lookup ("half" : Str) = some (.int ((num t : Int) / 2)) := by unfold gF; cases t <;> rfl
theorem gF_name : (gF U t).lookup ("name" : Str) = some (.str (nm t)) := by unfold gF; cases t <;> rfl
theorem GridAt.same {H H' : Hp} {g : Addr} (h : GridAt C U H g t) (s : Same H H') : GridAt C U H' g t := let ⟨dx, e⟩ := h; ⟨dx, s _ _ e⟩
theorem GridAt.got {p : Addr} {H H' : Hp} {g : Addr} (h : GridAt C U H g t) (s : Got p H H') (d : Die H p) : GridAt C U H' g t := by
  obtain ⟨dx, e⟩ := h
  obtain ⟨_, _, _, _, e0⟩ := d
  exact ⟨dx, s.keep _ _ e (ne_of e e0 (by intro z; cases z))⟩
/-- a point that stands at an address -/
def PAt (K : PySem.W.Frag) (H : Hp) (a : Addr) (u : Int × Int) : Prop := SqT K H a [.int u.1, .int u.2]
theorem PAt.same {H H' : Hp} {a : Addr} {u : Int × Int} (h : PAt K H a u) (s : Same H H') : PAt K H' a u := by
  rcases h with (z | ⟨o, z⟩) | z
  · exact .inl (.inl (s _ _ z))
  · exact .inl (.inr ⟨o, s _ _ z⟩)
  · exact .inr z
theorem PAt.got {p : Addr} {H H' : Hp} {a : Addr} {u : Int × Int} (h : PAt K H a u) (s : Got p H H') (d : Die H p) : PAt K H' a u := by
  obtain ⟨_, _, _, _, e0⟩ := d
  rcases h with (z | ⟨o, z⟩) | z
  · exact .inl (.inl (s.keep _ _ z (ne_of z e0 (by intro z; cases z))))
  · exact .inl (.inr ⟨o, s.keep _ _ z (ne_of z e0 (by intro z; cases z))⟩)
  · exact .inr z
theorem PAt.of {H : Hp} {a : Addr} {u : Int × Int} (h : H a = some (.tup [.int u.1, .int u.2])) : PAt K H a u := SqT.of h
def Sm (u : Int × Int) : Prop := u.1.natAbs < 2 ^ 3000 ∧ u.2.natAbs < 2 ^ 3000
theorem sm_mul {x y : Int} (hx : x.natAbs < 2 ^ 3000) (hy : y.natAbs < 2 ^ 3000) : CMulW x y := wide_mul hx hy (by decide) (by decide) (by decide)
theorem sl_mul {x : Int} (hx : x.natAbs < 2 ^ 6000) : CMulW (sl t) x := wide_mul (a := 1) (by cases t <;> decide) hx (by decide) (by decide) (by decide)
theorem num_pos : (0 : Int) < (num t : Int) := by cases t <;> decide
theorem len_ux : (ux t).length = num t := by cases t <;> rfl
theorem uni_at (k : Int) : (ux t)[(k % (num t : Int)).toNat]? = some (uni t k) := by
  have h1 := Int.emod_nonneg k (Int.ne_of_gt (num_pos (t := t)))
  have h2 := Int.emod_lt_of_pos k (num_pos (t := t))
  have h3 : (k % (num t : Int)).toNat < (ux t).length := by rw [len_ux]; omega
  rw [List.getElem?_eq_getElem h3]
  unfold uni
  rw [List.getD_eq_getElem?_getD, List.getElem?_eq_getElem h3]
  rfl
theorem uni_sm {k : Int} : Sm (uni t k) := by
  have h : ∀ p ∈ ux t, p.1.natAbs ≤ 1 ∧ p.2.natAbs ≤ 1 := by cases t <;> decide
  have z := h _ (List.mem_of_getElem? (uni_at (t := t) k))
  have b : (1 : Nat) < 2 ^ 3000 := by decide
  exact ⟨Nat.lt_of_le_of_lt z.1 b, Nat.lt_of_le_of_lt z.2 b⟩
theorem SqT.tup' {H : Hp} {a : Addr} {xs : List V} (h : SqT K H a xs) : Of K H (.ref a) .tup := by
  rcases h with (z | ⟨o, z⟩) | ⟨o, its, n, l, cl, _⟩
  · exact .base (.tup z)
  · exact .fTuple z
  · exact .kTuple l cl
theorem ptOk_sm {u : Int × Int} (h1 : isIntV (.int u.1) = true) (h2 : isIntV (.int u.2) = true) : Sm u := by
  rw [int_short] at h1 h2
  have b : (10 ^ 400 : Nat) ≤ 2 ^ 3000 := by decide +kernel
  exact ⟨Nat.lt_of_lt_of_le (of_decide_eq_true h1) b, Nat.lt_of_lt_of_le (of_decide_eq_true h2) b⟩
theorem len_put {f : Str} {y : V} : ∀ {fs : List (Str × V)}, (putF f y fs).length ≤ fs.length + 1
  | [] => Nat.le_refl _
  | (a, x) :: r => by
    show (if a = f then (a, y) :: r else (a, x) :: putF f y r).length ≤ _
    by_cases h : a = f
    · rw [if_pos h]; exact Nat.le_succ _
    · rw [if_neg h]; exact Nat.succ_le_succ len_put
theorem small_put {f : Str} {y : V} {fs : List (Str × V)} {n : Nat} (h : fs.length ≤ n) : (putF f y fs).length ≤ n + 1 := Nat.le_trans len_put (Nat.succ_le_succ h)
theorem bl_ne (x y : Bool) : (!decide (V.bl x = V.bl y)) = (x != y) := by cases x <;> cases y <;> decide +kernel
theorem bl_eq (x y : Bool) : decide (V.bl x = V.bl y) = (x == y) := by cases x <;> cases y <;> decide +kernel
theorem nat_eq (n m : Nat) : decide (V.int (n : Int) = V.int (m : Int)) = decide (n = m) := by
  by_cases h : n = m
  · subst h; rw [decide_eq_true rfl, decide_eq_true rfl]
  · rw [decide_eq_false h, decide_eq_false (fun z => h (by injection z with z; omega))]
/-! ### promises -/
def spInit (C : Addr) (U : Bool → Addr) : Sp := fun vs H Q _ => ∃ p dx t, vs = [.ref p, .str (nm t)] ∧ H p = some (.ins C dx []) ∧ ∀ H', (∀ b, b ≠ p → H' b = H b) → H' p = some (.ins C dx (gF U t)) → Q .non H'
def spTimes (K : PySem.W.Frag) (C : Addr) (U : Bool → Addr) : Sp := fun vs H Q _ => ∃ g t a b u v, vs = [.ref g, .ref a, .ref b] ∧ GridAt C U H g t ∧ PAt K H a u ∧ PAt K H b v ∧ Sm u ∧ Sm v ∧ ∀ p, H p = none → Q (.ref p) (upd H p (.tup [.int (mul t u v).1, .int (mul t u v).2]))
def spNorm (K : PySem.W.Frag) (C : Addr) (U : Bool → Addr) : Sp := fun vs H Q _ => ∃ g t a u, vs = [.ref g, .ref a] ∧ GridAt C U H g t ∧ PAt K H a u ∧ Sm u ∧ Q (.int (nrm t u)) H
def spFlip (K : PySem.W.Frag) (C : Addr) (U : Bool → Addr) : Sp := fun vs H Q _ => ∃ g t a u, vs = [.ref g, .ref a] ∧ GridAt C U H g t ∧ PAt K H a u ∧ Sm u ∧ ∀ p, H p = none → Q (.ref p) (upd H p (.tup [.int (flip t u).1, .int (flip t u).2]))
def spTurned (K : PySem.W.Frag) (C : Addr) (U : Bool → Addr) : Sp := fun vs H Q _ => ∃ g t a u k, vs = [.ref g, .ref a, .int k] ∧ GridAt C U H g t ∧ PAt K H a u ∧ Sm u ∧ ∀ p, H p = none → Q (.ref p) (upd H p (.tup [.int (mul t u (uni t k)).1, .int (mul t u (uni t k)).2]))
def ptOk (u : Int × Int) : Prop := isIntV (.int u.1) = true ∧ isIntV (.int u.2) = true
def spCheckP (K : PySem.W.Frag) : Sp := fun vs H Q _ => ∃ a u, vs = [.ref a] ∧ PAt K H a u ∧ ptOk u ∧ Q .non H
def spCheckN : Sp := fun vs H Q _ => ∃ k, vs = [.int k] ∧ isIntV (.int k) = true ∧ Q .non H
def spMUnit (K : PySem.W.Frag) (C : Addr) (U : Bool → Addr) : Sp := fun vs H Q _ => ∃ g t k, vs = [.ref g, .int k] ∧ GridAt C U H g t ∧ isIntV (.int k) = true ∧ ∀ i, (∀ H', PAt K H' i (uni t k)) → Q (.ref i) H
def spMNorm (K : PySem.W.Frag) (C : Addr) (U : Bool → Addr) : Sp := fun vs H Q _ => ∃ g t a u, vs = [.ref g, .ref a] ∧ GridAt C U H g t ∧ PAt K H a u ∧ ptOk u ∧ Q (.int (nrm t u)) H
def spMFlip (K : PySem.W.Frag) (C : Addr) (U : Bool → Addr) : Sp := fun vs H Q _ => ∃ g t a u, vs = [.ref g, .ref a] ∧ GridAt C U H g t ∧ PAt K H a u ∧ ptOk u ∧ ∀ p, H p = none → Q (.ref p) (upd H p (.tup [.int (flip t u).1, .int (flip t u).2]))
def spMTurned (K : PySem.W.Frag) (C : Addr) (U : Bool → Addr) : Sp := fun vs H Q _ => ∃ g t a u k, vs = [.ref g, .ref a, .int k] ∧ GridAt C U H g t ∧ PAt K H a u ∧ ptOk u ∧ isIntV (.int k) = true ∧ ∀ p, H p = none → Q (.ref p) (upd H p (.tup [.int (mul t u (uni t k)).1, .int (mul t u (uni t k)).2]))
def spMLen (C : Addr) (U : Bool → Addr) : Sp := fun vs H Q _ => ∃ g t, vs = [.ref g] ∧ GridAt C U H g t ∧ Q (.int (num t : Nat)) H
def alt (t : Bool) (e o : Int × Int) : Bool :=
  decide (dist [0, (e.2 - e.1) % (num t : Int), (o.1 - e.1) % (num t : Int), (o.2 - e.1) % (num t : Int)] = 4) &&
    (decide ((o.1 - e.1) % (num t : Int) < (e.2 - e.1) % (num t : Int)) != decide ((o.2 - e.1) % (num t : Int) < (e.2 - e.1) % (num t : Int)))
def spMAlt (K : PySem.W.Frag) (C : Addr) (U : Bool → Addr) : Sp := fun vs H Q _ => ∃ g t a b e o, vs = [.ref g, .ref a, .ref b] ∧ GridAt C U H g t ∧ PAt K H a e ∧ PAt K H b o ∧ ptOk e ∧ ptOk o ∧ ∀ H', Same H H' → Q (.bl (alt t e o)) H'
/-! ### the law's own grids -/
def PlainAt (H : Hp) (q : Addr) (t : Bool) : Prop := H q = some (.dK [(.inr "grid", .str (nm t))])
theorem PlainAt.get {H : Hp} {q : Addr} {t : Bool} (h : PlainAt H q t) : DGet H q (.str "grid") (some (.str (nm t))) := by
  have z := DGet.k (k := .inr "grid") h
  exact z
def spPlain : Sp := fun vs H Q _ => ∃ p, vs = [.ref p] ∧ Die H p ∧ ∀ q t H', H q = none → q ≠ p → PlainAt H' q t → Got p H H' → Q (.ref q) H'
def spAround : Sp := fun vs H Q _ => ∃ q t, vs = [.ref q] ∧ PlainAt H q t ∧ Q (.int (num t : Nat)) H
def spUnitL (K : PySem.W.Frag) : Sp := fun vs H Q _ => ∃ q t k, vs = [.ref q, .int k] ∧ PlainAt H q t ∧ ∀ p H', Same H H' → PAt K H' p (uni t k) → Q (.ref p) H'
def spTimesL (K : PySem.W.Frag) : Sp := fun vs H Q _ => ∃ q t a b u v, vs = [.ref q, .ref a, .ref b] ∧ PlainAt H q t ∧ PAt K H a u ∧ PAt K H b v ∧ Sm u ∧ Sm v ∧ ∀ p, H p = none → Q (.ref p) (upd H p (.tup [.int (mul t u v).1, .int (mul t u v).2]))
def spSpun (K : PySem.W.Frag) : Sp := fun vs H Q _ => ∃ q t a u k, vs = [.ref q, .ref a, .int k] ∧ PlainAt H q t ∧ PAt K H a u ∧ Sm u ∧ ∀ p H', Same H H' → PAt K H' p (mul t u (uni t k)) → Q (.ref p) H'
/-- how many of a pair have the rest d -/
def cnt2 (m : Int) (u : Int × Int) (d : Nat) : Nat := (if u.1 % m = (d : Int) then 1 else 0) + (if u.2 % m = (d : Int) then 1 else 0)
def metUp (m : Int) (e o : Int × Int) : Nat → List Int
  | 0 => []
  | d + 1 => (metUp m e o d ++ List.replicate (cnt2 m e d) 0) ++ List.replicate (cnt2 m o d) 1
def doAlt (m : Nat) (e o : Int × Int) : Bool := decide (dist [e.1 % (m : Int), e.2 % (m : Int), o.1 % (m : Int), o.2 % (m : Int)] = 4) && ([[0, 1, 0, 1], [1, 0, 1, 0]].any fun z => decide (z = metUp m e o m))
def spDoAlt (K : PySem.W.Frag) : Sp := fun vs H Q _ => ∃ t a b e o, vs = [.int (num t : Nat), .ref a, .ref b] ∧ PAt K H a e ∧ PAt K H b o ∧ ∀ H', Same H H' → Q (.bl (doAlt (num t) e o)) H'
/-! ### lists of ints -/
def intL (ns : List Int) : PyData := .list (ns.map .int)
theorem intL_dp {K : PySem.W.Frag} {H : Hp} : ∀ {ns : List Int}, DpAll K H (ns.map V.int) (ns.map .int)
  | [] => .nil
  | n :: _ => .cons (.int n) intL_dp
theorem intL_at {K : PySem.W.Frag} {H : Hp} {l : Addr} {ns : List Int} (h : H l = some (.lst (ns.map V.int))) : Dp K H (.ref l) (intL ns) := .lst (SqL.of h) intL_dp
theorem intL_eqv (a b : List Int) : PyData.eqv (intL a) (intL b) = decide (a = b) := by
  show PyData.eqvAll (a.map .int) (b.map .int) = _
  induction a generalizing b with
  | nil => cases b <;> simp [PyData.eqvAll]
  | cons x r ih =>
    cases b with
    | nil => simp [PyData.eqvAll]
    | cons y q =>
      rw [List.map_cons, List.map_cons, PyData.eqvAll, ih q, show PyData.eqv (.int x) (.int y) = (x == y) from rfl]
      rw [Bool.eq_iff_iff]
      simp
theorem flat_rep (c : Nat) (x : Int) : (List.replicate c [V.int x]).flatten = (List.replicate c x).map V.int := by
  induction c with
  | zero => rfl
  | succ n ih => rw [List.replicate_succ, List.flatten_cons, ih]; rfl
theorem metUp_len {m : Int} {e o : Int × Int} : ∀ i, (metUp m e o i).length ≤ 4 * i
  | 0 => Nat.le_refl _
  | i + 1 => by
    have := metUp_len (m := m) (e := e) (o := o) i
    have h : ∀ u : Int × Int, cnt2 m u i ≤ 2 := by intro u; unfold cnt2; split <;> split <;> decide
    have h1 := h e
    have h2 := h o
    rw [metUp, List.length_append, List.length_append, List.length_replicate, List.length_replicate]
    omega
theorem shaped_intL (ns : List Int) : SeqAt.shaped (intL ns) = true := PySem.W.shaped_ints ns
theorem int_eq {x y : Int} : decide (V.int x = V.int y) = decide (x = y) := by
  by_cases h : x = y
  · subst h; rw [decide_eq_true rfl, decide_eq_true rfl]
  · rw [decide_eq_false h, decide_eq_false (fun z => h (by injection z))]
/-- how many of the first j of a pair have the rest d -/
def cntU (m : Int) (u : Int × Int) (d : Nat) : Nat → Nat
  | 0 => 0
  | 1 => if u.1 % m = (d : Int) then 1 else 0
  | _ => cnt2 m u d
theorem cntU_all {m : Int} {u : Int × Int} {d : Nat} : cntU m u d [V.int u.1, V.int u.2].length = cnt2 m u d := rfl
theorem cnt2_le {m : Int} {u : Int × Int} {d : Nat} : cnt2 m u d ≤ 2 := by unfold cnt2; split <;> split <;> decide
theorem cntU_le {m : Int} {u : Int × Int} {d j : Nat} : cntU m u d j ≤ 2 := by
  match j with
  | 0 => exact Nat.zero_le _
  | 1 => show (if _ then 1 else 0) ≤ 2; split <;> decide
  | _ + 2 => exact cnt2_le
theorem pair_at {u : Int × Int} {j : Nat} {x : V} (h : [V.int u.1, V.int u.2][j]? = some x) : ∃ y, x = .int y ∧ [u.1, u.2][j]? = some y := by
  match j, h with
  | 0, h => exact ⟨_, (Option.some.inj h).symm, rfl⟩
  | 1, h => exact ⟨_, (Option.some.inj h).symm, rfl⟩
theorem cntU_yes {m : Int} {u : Int × Int} {d j : Nat} {y : Int} (h : [u.1, u.2][j]? = some y) (c : y % m = (d : Int)) : cntU m u d j + 1 = cntU m u d (j + 1) := by
  match j, h with
  | 0, h => cases (Option.some.inj h); show 0 + 1 = if _ then 1 else 0; rw [if_pos c]
  | 1, h => cases (Option.some.inj h); show (if _ then 1 else 0) + 1 = cnt2 m u d; unfold cnt2; rw [if_pos c]
theorem cntU_no {m : Int} {u : Int × Int} {d j : Nat} {y : Int} (h : [u.1, u.2][j]? = some y) (c : ¬ y % m = (d : Int)) : cntU m u d j = cntU m u d (j + 1) := by
  match j, h with
  | 0, h => cases (Option.some.inj h); show 0 = if _ then 1 else 0; rw [if_neg c]
  | 1, h => cases (Option.some.inj h); show (if _ then 1 else 0) = cnt2 m u d; unfold cnt2; rw [if_neg c]; rfl
/-! ### what the text has, for the end -/
def TupK (K : PySem.W.Frag) (a : Addr) (xs : List V) : Prop := ∃ (o : Obj) (its : Array Value) (n : Nat), K.lookup a = some o ∧ o.cls = .type "tuple" ∧ o.data = .seq its n ∧ its.size ≤ sizeLine ∧ Vals xs its.toList
theorem TupK.at {K : PySem.W.Frag} {a : Addr} {xs : List V} (h : TupK K a xs) (H : Hp) : SqT K H a xs := .inr h
theorem uni_mk {K : PySem.W.Frag} {w : World} {aG dU aS aT s0 s1 s2 s3 t0 t1 t2 t3 t4 t5 : Addr} (g : TupK K aG [.str "square", .str "triangle"]) (kS : KDct K w dU "square" (.ref aS)) (kT : KDct K w dU "triangle" (.ref aT))
    (hS : TupK K aS [.ref s0, .ref s1, .ref s2, .ref s3]) (hT : TupK K aT [.ref t0, .ref t1, .ref t2, .ref t3, .ref t4, .ref t5])
    (p0 : TupK K s0 [.int 1, .int 0]) (p1 : TupK K s1 [.int 0, .int 1]) (p2 : TupK K s2 [.int (-1), .int 0]) (p3 : TupK K s3 [.int 0, .int (-1)])
    (q0 : TupK K t0 [.int 1, .int 0]) (q1 : TupK K t1 [.int 0, .int 1]) (q2 : TupK K t2 [.int (-1), .int 1]) (q3 : TupK K t3 [.int (-1), .int 0]) (q4 : TupK K t4 [.int 0, .int (-1)]) (q5 : TupK K t5 [.int 1, .int (-1)]) :
    Uni K w aG dU (fun t => cond t aT aS) (fun t => cond t [t0, t1, t2, t3, t4, t5] [s0, s1, s2, s3]) where
  grids := g.at
  key := fun t => by cases t; exact kS; exact kT
  tup := fun t H => by cases t; exact hS.at H; exact hT.at H
  len := fun t => by cases t <;> rfl
  pt := fun t i a p ha hp H => by
    cases t
    · match i, ha, hp with
      | 0, ha, hp => cases Option.some.inj ha; cases Option.some.inj hp; exact p0.at H
      | 1, ha, hp => cases Option.some.inj ha; cases Option.some.inj hp; exact p1.at H
      | 2, ha, hp => cases Option.some.inj ha; cases Option.some.inj hp; exact p2.at H
      | 3, ha, hp => cases Option.some.inj ha; cases Option.some.inj hp; exact p3.at H
    · match i, ha, hp with
      | 0, ha, hp => cases Option.some.inj ha; cases Option.some.inj hp; exact q0.at H
      | 1, ha, hp => cases Option.some.inj ha; cases Option.some.inj hp; exact q1.at H
      | 2, ha, hp => cases Option.some.inj ha; cases Option.some.inj hp; exact q2.at H
      | 3, ha, hp => cases Option.some.inj ha; cases Option.some.inj hp; exact q3.at H
      | 4, ha, hp => cases Option.some.inj ha; cases Option.some.inj hp; exact q4.at H
      | 5, ha, hp => cases Option.some.inj ha; cases Option.some.inj hp; exact q5.at H
theorem kdct_mk {K : PySem.W.Frag} {w : World} {a v : Addr} {x : Str} {es : Array DictEntry} {n : Nat} (l : K.lookup a = some ⟨.type "dict", none, .dict es n, #[]⟩) (k : PySem.W.nsIn K a x = some (some (.ref v))) (kk : PySem.W.KeysLit w.params es.toList) : KDct K w a x (.ref v) :=
  ⟨es, n, .ref v, l, kk, k, rfl⟩
end GL
namespace GL
open PySem PySem.Spec PyProof.Rows L2
/-! ### what turns do to points -/
variable {t : Bool} {u : Int × Int} {a b k : Int}
theorem uni_congr {k l : Int} (h : k % (num t : Int) = l % (num t : Int)) : uni t k = uni t l := by unfold uni; rw [h]
theorem res4 (k : Int) : k % 4 = 0 ∨ k % 4 = 1 ∨ k % 4 = 2 ∨ k % 4 = 3 := by omega
theorem res6 (k : Int) : k % 6 = 0 ∨ k % 6 = 1 ∨ k % 6 = 2 ∨ k % 6 = 3 ∨ k % 6 = 4 ∨ k % 6 = 5 := by omega
theorem u4 : uni false 0 = (1, 0) ∧ uni false 1 = (0, 1) ∧ uni false 2 = (-1, 0) ∧ uni false 3 = (0, -1) := ⟨rfl, rfl, rfl, rfl⟩
theorem turn_add : mul t (mul t u (uni t a)) (uni t b) = mul t u (uni t (a + b)) := by
  obtain ⟨x, y⟩ := u
  cases t
  · rcases res4 a with h1 | h1 | h1 | h1 <;> rcases res4 b with h2 | h2 | h2 | h2 <;>
      (have e1 := uni_congr (t := false) (k := a) (l := a % 4) (by show a % 4 = (a % 4) % 4; omega)
       have e2 := uni_congr (t := false) (k := b) (l := b % 4) (by show b % 4 = (b % 4) % 4; omega)
       have e3 := uni_congr (t := false) (k := a + b) (l := a % 4 + b % 4) (by show (a + b) % 4 = (a % 4 + b % 4) % 4; omega)
       rw [h1] at e1
       rw [h2] at e2
       rw [h1, h2] at e3
       rw [e1, e2, e3]
       refine Prod.ext ?_ ?_ <;> simp [mul, sl, uni, ux, num] <;> omega)
  · rcases res6 a with h1 | h1 | h1 | h1 | h1 | h1 <;> rcases res6 b with h2 | h2 | h2 | h2 | h2 | h2 <;>
      (have e1 := uni_congr (t := true) (k := a) (l := a % 6) (by show a % 6 = (a % 6) % 6; omega)
       have e2 := uni_congr (t := true) (k := b) (l := b % 6) (by show b % 6 = (b % 6) % 6; omega)
       have e3 := uni_congr (t := true) (k := a + b) (l := a % 6 + b % 6) (by show (a + b) % 6 = (a % 6 + b % 6) % 6; omega)
       rw [h1] at e1
       rw [h2] at e2
       rw [h1, h2] at e3
       rw [e1, e2, e3]
       refine Prod.ext ?_ ?_ <;> simp [mul, sl, uni, ux, num] <;> omega)
theorem uni_red4 (k : Int) : uni false k = uni false (k % 4) := uni_congr (t := false) (by show k % 4 = (k % 4) % 4; omega)
theorem uni_red6 (k : Int) : uni true k = uni true (k % 6) := uni_congr (t := true) (by show k % 6 = (k % 6) % 6; omega)
theorem turn_all : mul t u (uni t (num t : Nat)) = u := by
  obtain ⟨x, y⟩ := u
  cases t <;> (refine Prod.ext ?_ ?_ <;> simp [mul, sl, uni, ux, num])
theorem turn_half : mul t u (uni t ((num t : Int) / 2)) = (0 - u.1, 0 - u.2) := by
  obtain ⟨x, y⟩ := u
  cases t <;> (refine Prod.ext ?_ ?_ <;> simp [mul, sl, uni, ux, num])
theorem turn_one : mul t (1, 0) (uni t k) = uni t k := by
  generalize uni t k = v
  obtain ⟨x, y⟩ := v
  cases t <;> (refine Prod.ext ?_ ?_ <;> simp [mul, sl])
theorem turn_flip : flip t (mul t (flip t u) (uni t k)) = mul t u (uni t (0 - k)) := by
  obtain ⟨x, y⟩ := u
  cases t
  · rcases res4 k with h1 | h1 | h1 | h1 <;>
      (have e1 := uni_red4 k
       have e3 := uni_congr (t := false) (k := 0 - k) (l := 0 - k % 4) (by show (0 - k) % 4 = (0 - k % 4) % 4; omega)
       rw [h1] at e1 e3
       rw [e1, e3]
       refine Prod.ext ?_ ?_ <;> simp [flip, mul, sl, uni, ux, num] <;> omega)
  · rcases res6 k with h1 | h1 | h1 | h1 | h1 | h1 <;>
      (have e1 := uni_red6 k
       have e3 := uni_congr (t := true) (k := 0 - k) (l := 0 - k % 6) (by show (0 - k) % 6 = (0 - k % 6) % 6; omega)
       rw [h1] at e1 e3
       rw [e1, e3]
       refine Prod.ext ?_ ?_ <;> simp [flip, mul, sl, uni, ux, num] <;> omega)
theorem turn_norm : nrm t (mul t u (uni t k)) = nrm t u := by
  obtain ⟨x, y⟩ := u
  cases t
  · rcases res4 k with h1 | h1 | h1 | h1 <;>
      (have e1 := uni_red4 k
       rw [h1] at e1
       rw [e1]
       simp [nrm, mul, sl, uni, ux, num] <;> grind)
  · rcases res6 k with h1 | h1 | h1 | h1 | h1 | h1 <;>
      (have e1 := uni_red6 k
       rw [h1] at e1
       rw [e1]
       simp [nrm, mul, sl, uni, ux, num] <;> grind)
/-- small points -/
def Le (n : Nat) (u : Int × Int) : Prop := u.1.natAbs ≤ n ∧ u.2.natAbs ≤ n
theorem Le.turn {n : Nat} (h : Le n u) : Le (2 * n) (mul t u (uni t k)) := by
  obtain ⟨x, y⟩ := u
  obtain ⟨h1, h2⟩ : x.natAbs ≤ n ∧ y.natAbs ≤ n := h
  cases t
  · rcases res4 k with h1 | h1 | h1 | h1 <;>
      (have e1 := uni_red4 k
       rw [h1] at e1
       rw [e1]
       refine ⟨?_, ?_⟩ <;> simp [mul, sl, uni, ux, num] <;> omega)
  · rcases res6 k with h1 | h1 | h1 | h1 | h1 | h1 <;>
      (have e1 := uni_red6 k
       rw [h1] at e1
       rw [e1]
       refine ⟨?_, ?_⟩ <;> simp [mul, sl, uni, ux, num] <;> omega)
theorem Le.flip {n : Nat} (h : Le n u) : Le (2 * n) (flip t u) := by
  obtain ⟨x, y⟩ := u
  obtain ⟨h1, h2⟩ : x.natAbs ≤ n ∧ y.natAbs ≤ n := h
  cases t <;> (refine ⟨?_, ?_⟩ <;> simp [GL.flip, sl] <;> omega)
theorem short_of {x : Int} (h : x.natAbs ≤ 10 ^ 9) : isIntV (.int x) = true := by rw [int_short]; exact decide_eq_true (Nat.lt_of_le_of_lt h (by decide +kernel))
theorem Le.ok {n : Nat} (h : Le n u) (hn : n ≤ 10 ^ 9) : ptOk u := ⟨short_of (Nat.le_trans h.1 hn), short_of (Nat.le_trans h.2 hn)⟩
theorem Le.sm {n : Nat} (h : Le n u) (hn : n ≤ 10 ^ 9) : Sm u := ptOk_sm (h.ok hn).1 (h.ok hn).2
/-! ### the text of a small point -/
def ptD (u : Int × Int) : PyData := .tuple [.int u.1, .int u.2]
theorem ptD_at {K : PySem.W.Frag} {H : Hp} {a : Addr} (h : PAt K H a u) : Dp K H (.ref a) (ptD u) := .tup h (.cons (.int _) (.cons (.int _) .nil))
theorem one_short : ∀ i : Fin 401, (PyData.shown (.int ((i.val : Int) - 200))).length ≤ 13 := by decide +kernel
theorem int_shown {x : Int} (h : x.natAbs ≤ 200) : (PyData.shown (.int x)).length ≤ 13 := by
  have z := one_short ⟨(x + 200).toNat, by omega⟩
  have e : (((x + 200).toNat : Nat) : Int) - 200 = x := by omega
  rw [e] at z
  exact z
theorem ptD_ok (h : Le 200 u) : (ptD u).showable = true ∧ (ptD u).hasDict = false ∧ (ptD u).depth ≤ 20 ∧ (ptD u).shown.length ≤ sizeLine := by
  have sh : ∀ {x : Int}, x.natAbs ≤ 200 → PyData.showable (.int x) = true := fun {x} h => by
    simp only [PyData.showable]
    exact decide_eq_true (Nat.lt_of_le_of_lt (Nat.log2_le_self _) (Nat.lt_of_le_of_lt h (by decide)))
  refine ⟨?_, ?_, ?_, ?_⟩
  · simp only [ptD, PyData.showable, PyData.showableAll, Bool.and_eq_true, Bool.and_true]
    have a1 := sh h.1
    have a2 := sh h.2
    simp only [PyData.showable] at a1 a2
    exact ⟨a1, a2⟩
  · simp [ptD, PyData.hasDict, PyData.hasDictAll]
  · simp [ptD, PyData.depth, PyData.depthAll]
  · refine Nat.le_trans (shown_le13 (d := ptD u) ?_ ?_) (by decide)
    · simp [ptD, PyData.layable0, PyData.canLay0, PyData.canLayAll0, PyData.depth, PyData.depthAll, PyData.weight, PyData.weightAll]
      have l1 : u.fst.natAbs.log2 ≤ 200 := Nat.le_trans (Nat.log2_le_self _) h.1
      have l2 : u.snd.natAbs.log2 ≤ 200 := Nat.le_trans (Nat.log2_le_self _) h.2
      split <;> split <;> omega
    · simp only [ptD, PyData.intsShort, PyData.intsShortAll, Bool.and_eq_true, Bool.and_true]
      exact ⟨decide_eq_true (int_shown h.1), decide_eq_true (int_shown h.2)⟩
theorem ptD_shaped (u : Int × Int) : SeqAt.shaped (ptD u) = true := by
  simp [ptD, SeqAt.shaped, PyData.canLay0, PyData.canLayAll0, PyData.depth, PyData.depthAll]
theorem ptD_eqv (u v : Int × Int) : PyData.eqv (ptD u) (ptD v) = decide (u = v) := by
  obtain ⟨x, y⟩ := u
  obtain ⟨z, w⟩ := v
  show PyData.eqvAll [.int x, .int y] [.int z, .int w] = _
  simp only [PyData.eqvAll]
  rw [show PyData.eqv (.int x) (.int z) = (x == z) from rfl, show PyData.eqv (.int y) (.int w) = (y == w) from rfl, Bool.eq_iff_iff]
  simp
theorem ptD_self (u : Int × Int) : PyData.eqv (ptD u) (ptD u) = true := by rw [ptD_eqv]; exact decide_eq_true rfl
theorem PlainAt.got {p q : Addr} {H H' : Hp} (h : PlainAt H q t) (s : Got p H H') (d : Die H p) : PlainAt H' q t := by
  obtain ⟨_, _, _, _, e0⟩ := d
  exact s.keep _ _ h (ne_of h e0 (by intro z; cases z))
def spTurns (C : Addr) (U : Bool → Addr) : Sp := fun vs H Q _ => ∃ p q g t, vs = [.ref p, .ref q, .ref g] ∧ Die H p ∧ PlainAt H q t ∧ GridAt C U H g t ∧ ∀ H', Got p H H' → Q (.bl true) H'
theorem Got.over_same {p : Addr} {H H1 H2 : Hp} (g : Got p H H1) (s : Same H1 H2) : Got p H H2 :=
  ⟨fun b o e n => s _ _ (g.keep b o e n), let ⟨l, b, c, l0, e⟩ := g.die; ⟨l, b, c, l0, s _ _ e⟩⟩
theorem str_self (x : Str) : (!decide (V.str x = V.str x)) = false := by rw [decide_eq_true rfl]; rfl
theorem int_self (x : Int) : (!decide (V.int x = V.int x)) = false := by rw [decide_eq_true rfl]; rfl
theorem Le.mono {n m : Nat} (h : Le n u) (hn : n ≤ m) : Le m u := ⟨Nat.le_trans h.1 hn, Nat.le_trans h.2 hn⟩
theorem uni_mod {t : Bool} (k : Int) : uni t (k % (num t : Int)) = uni t k := uni_congr (Int.emod_emod_of_dvd _ (Int.dvd_refl _))
theorem small_mod {t : Bool} (k : Int) : isIntV (.int (k % (num t : Int))) = true := by
  have h1 := Int.emod_nonneg k (Int.ne_of_gt (num_pos (t := t)))
  have h2 := Int.emod_lt_of_pos k (num_pos (t := t))
  have h3 : num t ≤ 6 := by cases t <;> decide
  refine short_of (Nat.le_trans (show _ ≤ 6 by omega) (by decide))
theorem num_small {t : Bool} : ((num t : Nat) : Int) < 2 ^ 63 := by cases t <;> decide
theorem num_ok {t : Bool} : isIntV (.int (num t : Nat)) = true := by cases t <;> exact short_of (by decide)
theorem half_ok {t : Bool} : isIntV (.int ((num t : Int) / 2)) = true := by cases t <;> exact short_of (by decide)
/-! ### all pairs of pairs of directions -/
theorem alt_fin4 : ∀ a b c d : Fin 4, (let D := doAlt 4 ((a.val : Int), (b.val : Int)) ((c.val : Int), (d.val : Int))
    alt false ((a.val : Int), (b.val : Int)) ((c.val : Int), (d.val : Int)) = D ∧ alt false ((c.val : Int), (d.val : Int)) ((a.val : Int), (b.val : Int)) = D ∧ alt false ((b.val : Int), (a.val : Int)) ((c.val : Int), (d.val : Int)) = D ∧
    alt false (0 - (a.val : Int), 0 - (b.val : Int)) (0 - (c.val : Int), 0 - (d.val : Int)) = D) := by decide +kernel
theorem alt_fin6 : ∀ a b c d : Fin 6, (let D := doAlt 6 ((a.val : Int), (b.val : Int)) ((c.val : Int), (d.val : Int))
    alt true ((a.val : Int), (b.val : Int)) ((c.val : Int), (d.val : Int)) = D ∧ alt true ((c.val : Int), (d.val : Int)) ((a.val : Int), (b.val : Int)) = D ∧ alt true ((b.val : Int), (a.val : Int)) ((c.val : Int), (d.val : Int)) = D ∧
    alt true (0 - (a.val : Int), 0 - (b.val : Int)) (0 - (c.val : Int), 0 - (d.val : Int)) = D) := by decide +kernel
theorem alt_four {t : Bool} {a b c d : Int} (ha : 0 ≤ a ∧ a < (num t : Int)) (hb : 0 ≤ b ∧ b < (num t : Int)) (hc : 0 ≤ c ∧ c < (num t : Int)) (hd : 0 ≤ d ∧ d < (num t : Int)) :
    alt t (a, b) (c, d) = doAlt (num t) (a, b) (c, d) ∧ alt t (c, d) (a, b) = doAlt (num t) (a, b) (c, d) ∧ alt t (b, a) (c, d) = doAlt (num t) (a, b) (c, d) ∧ alt t (0 - a, 0 - b) (0 - c, 0 - d) = doAlt (num t) (a, b) (c, d) := by
  obtain ⟨a, rfl⟩ : ∃ n : Nat, a = (n : Int) := ⟨a.toNat, by omega⟩
  obtain ⟨b, rfl⟩ : ∃ n : Nat, b = (n : Int) := ⟨b.toNat, by omega⟩
  obtain ⟨c, rfl⟩ : ∃ n : Nat, c = (n : Int) := ⟨c.toNat, by omega⟩
  obtain ⟨d, rfl⟩ : ∃ n : Nat, d = (n : Int) := ⟨d.toNat, by omega⟩
  cases t
  · exact alt_fin4 ⟨a, Int.ofNat_lt.mp ha.2⟩ ⟨b, Int.ofNat_lt.mp hb.2⟩ ⟨c, Int.ofNat_lt.mp hc.2⟩ ⟨d, Int.ofNat_lt.mp hd.2⟩
  · exact alt_fin6 ⟨a, Int.ofNat_lt.mp ha.2⟩ ⟨b, Int.ofNat_lt.mp hb.2⟩ ⟨c, Int.ofNat_lt.mp hc.2⟩ ⟨d, Int.ofNat_lt.mp hd.2⟩
theorem alt_next {t : Bool} {a b c d : Int} : alt t (a + 1, b + 1) (c + 1, d + 1) = alt t (a, b) (c, d) := by
  unfold alt
  rw [show b + 1 - (a + 1) = b - a by omega, show c + 1 - (a + 1) = c - a by omega, show d + 1 - (a + 1) = d - a by omega]
theorem alt_far {t : Bool} {a b c d s : Int} (hs : s % (num t : Int) = 0) : alt t (a + s, b) (c, d - (num t : Nat)) = alt t (a, b) (c, d) := by
  unfold alt
  have e1 : (b - (a + s)) % (num t : Int) = (b - a) % (num t : Int) := by cases t <;> (simp only [num] at hs ⊢; omega)
  have e2 : (c - (a + s)) % (num t : Int) = (c - a) % (num t : Int) := by cases t <;> (simp only [num] at hs ⊢; omega)
  have e3 : (d - (num t : Nat) - (a + s)) % (num t : Int) = (d - a) % (num t : Int) := by cases t <;> (simp only [num] at hs ⊢; omega)
  simp only [e1, e2, e3]
theorem b6_ok (x : Bool) : (bls [x, x, x, x, x, x]).showable = true ∧ (bls [x, x, x, x, x, x]).hasDict = false ∧ (bls [x, x, x, x, x, x]).depth ≤ 20 ∧ (bls [x, x, x, x, x, x]).shown.length ≤ sizeLine := by
  cases x <;> exact ⟨by decide +kernel, by decide +kernel, by decide +kernel, by decide +kernel⟩
theorem sub_mod (n : Int) {m : Int} (h : 0 < m) : (n - n % m) % m = 0 := by
  rw [Int.sub_emod, Int.emod_emod_of_dvd _ (Int.dvd_refl _), Int.sub_self, Int.zero_emod]
theorem sub_small (n : Int) {m : Int} (h : 0 < m) (h6 : m ≤ 6) (hn : (if n < 0 then -n else n) < (10 : Int) ^ (50 : Int).toNat * (10 : Int) ^ (50 : Int).toNat) : (n - n % m).natAbs ≤ 10 ^ 101 := by
  have h1 := Int.emod_nonneg n (Int.ne_of_gt h)
  have h2 := Int.emod_lt_of_pos n h
  have e : (10 : Int) ^ (50 : Int).toNat * (10 : Int) ^ (50 : Int).toNat = ((10 ^ 100 : Nat) : Int) := by decide +kernel
  rw [e] at hn
  have b : (10 ^ 100 : Nat) + 6 ≤ 10 ^ 101 := by decide +kernel
  generalize (10 ^ 100 : Nat) = N at *
  generalize (10 ^ 101 : Nat) = M at *
  split at hn <;> omega
theorem far_ok {x s : Int} (hs : s.natAbs ≤ 10 ^ 101) (hx : x.natAbs ≤ 10) : isIntV (.int (x + s)) = true := by
  rw [int_short]
  refine decide_eq_true (Nat.lt_of_le_of_lt (show _ ≤ 10 ^ 101 + 10 by generalize (10 ^ 101 : Nat) = M at *; omega) (by decide +kernel))
theorem same_made {H H3 : Hp} {x dx : Addr} {o1 o2 : HO} (hx : H x = none) (hdx : H dx = none) (hk : ∀ b, b ≠ x → H3 b = upd (upd H dx o1) x o2 b) : Same H H3 := by
  intro b o e
  have n1 := ne_of_none e hx
  have n2 := ne_of_none e hdx
  rw [hk b n1, upd_ne n1, upd_ne n2]
  exact e
end GL
/-! repr of lists and tuples of ints that have up to 4300 digits -/
namespace GL
open PySem PySem.Spec PyProof.Rows L2
def Big (i : Int) : Prop := i.natAbs < 10 ^ 4300
section
variable {prog : Program} {w : World} {h₀ : Heap}
theorem big_call {A : Around} {E : Value → Shared → Prop} {s : Shared} {Q : Value → Shared → Prop} {i : Int} {t : Tok} (nd : s.heap.NoDigits) (hi : Big i) (h : Q (.str (toString i) s.toks) { s with toks := s.toks + 1 }) :
    wpAny (model prog w) A (call (.builtin "int.__repr__") [.int i t]) Q E s := by
  refine wpAny_call_entry F.slot_int_repr (typeIs_int s i t) F.entry_int_repr ?_ (F.args_int_repr_1 _)
  unfold Builtin.«int.__repr__»
  show wpAny (model prog w) _ (Builtin.overDigitLimit? i >>= _) _ _ s
  refine wpAny_bind (overDigitLimit_any nd (fun lt => ?_) (fun ge => absurd hi (Nat.not_lt.mpr ge)))
  exact wpAny_bind (wpAny_mkStr (wpAny_pure ⟨_, rfl, h⟩) (int_text_fits10 lt))
theorem big_leaf (nd : h₀.NoDigits) {i : Int} (t : Tok) (hi : Big i) (as : List Addr) (d : Nat) : ReprK prog w as h₀ d (.int i t) (toString i) := by
  intro base hb A g E s Q hg hcl hu hk hQ
  have hb' : base ≤ sizeLine := Nat.le_trans (Nat.le_add_right _ _) hb
  rw [pyReprUnder_leaf (v := Value.int i t) hb' (fun _ z => by cases z)]
  unfold pyRepr
  refine wpAny_bind (wpAny_pyReprObj_slot (Nat.lt_of_le_of_lt (Nat.le_add_right _ _) hu) (typeIs_int s i t) F.slot_int_repr.toG (big_call (nd.keeps hk) hi ⟨_, _, rfl, ?_⟩))
  exact wpAny_pure (hQ s.heap _ fun _ _ e => e)
/-- ints alone -/
def BigInts (ds : List PyData) : Prop := ∀ d ∈ ds, ∃ i, d = .int i ∧ Big i
theorem int_at {v : Value} {i : Int} {as : List Addr} (r : Reads h₀ v (.int i) as) : ∃ t, v = .int i t := by
  cases r
  exact ⟨_, rfl⟩
theorem big_ints (nd : h₀.NoDigits) (as : List Addr) (n : Nat) : ∀ {vs : List Value} {ds : List PyData} {bs : List Addr}, ReadsAll h₀ vs ds bs → BigInts ds → ReprAllK prog w as h₀ n vs (PyData.shownAll ds)
  | _, _, _, .nil, _ => by simp only [PyData.shownAll]; exact .nil
  | _, _, _, .cons (d := d) r rs, h => by
    obtain ⟨i, e, hi⟩ := h d (List.mem_cons_self ..)
    subst e
    obtain ⟨t, e⟩ := int_at r
    subst e
    simp only [PyData.shownAll, PyData.shown]
    exact .cons (big_leaf nd t hi as n) (big_ints nd as n rs (fun d hd => h d (List.mem_cons_of_mem _ hd)))
/-- an int, or a tuple of ints -/
inductive BigItem : PyData → Prop where
  | int {i : Int} : Big i → BigItem (.int i)
  | tup {xs : List PyData} : BigInts xs → BigItem (.tuple xs)
theorem depth_ints : ∀ {ds : List PyData}, BigInts ds → PyData.depthAll ds ≤ 0
  | [], _ => by simp [PyData.depthAll]
  | d :: r, h => by
    obtain ⟨i, e, _⟩ := h d (List.mem_cons_self ..)
    subst e
    have := depth_ints (ds := r) (fun d hd => h d (List.mem_cons_of_mem _ hd))
    simp only [PyData.depthAll, PyData.depth]
    omega
theorem big_item (nd : h₀.NoDigits) {v : Value} {d : PyData} {as : List Addr} (r : Reads h₀ v d as) (h : BigItem d) : ∃ bs, ReadAtMost h₀ 1 bs ∧ ReprK prog w bs h₀ 2 v d.shown := by
  cases h with
  | @int i hi =>
    obtain ⟨t, e⟩ := int_at r
    subst e
    exact ⟨[], (fun _ z => by cases z), by simp only [PyData.shown]; exact big_leaf nd t hi [] 2⟩
  | @tup xs hx =>
    have dp := depth_ints hx
    cases r with
    | tuple h1 h2 h3 h4 =>
      rename_i a o vs n
      have k := big_ints (prog := prog) (w := w) nd [] 1 h4 hx
      refine ⟨[a], fun b hb => ?_, ?_⟩
      · rw [List.mem_singleton.mp hb]
        exact ⟨_, _, .tuple h1 h2 h3 h4, by simp only [PyData.depth]; omega⟩
      · simp only [PyData.shown]
        exact ReprK.tuple h1 h2 h3 (fun z => by cases z) k
theorem big_items (nd : h₀.NoDigits) : ∀ {vs : List Value} {ds : List PyData} {bs : List Addr}, ReadsAll h₀ vs ds bs → (∀ d ∈ ds, BigItem d) → ∃ cs, ReadAtMost h₀ 1 cs ∧ ReprAllK prog w cs h₀ 2 vs (PyData.shownAll ds)
  | _, _, _, .nil, _ => ⟨[], (fun _ z => by cases z), by simp only [PyData.shownAll]; exact .nil⟩
  | _, _, _, .cons (d := d) r rs, h => by
    obtain ⟨c1, m1, k1⟩ := big_item (prog := prog) (w := w) nd r (h d (List.mem_cons_self ..))
    obtain ⟨c2, m2, k2⟩ := big_items nd rs (fun d hd => h d (List.mem_cons_of_mem _ hd))
    refine ⟨c1 ++ c2, fun b hb => (List.mem_append.mp hb).elim (m1 b) (m2 b), ?_⟩
    simp only [PyData.shownAll]
    exact .cons (k1.more fun b hb => List.mem_append_left _ hb) (k2.more_le (fun b hb => List.mem_append_right _ hb) (Nat.le_refl _))
theorem depth_items : ∀ {ds : List PyData}, (∀ d ∈ ds, BigItem d) → PyData.depthAll ds ≤ 1
  | [], _ => by simp [PyData.depthAll]
  | d :: r, h => by
    have h2 := depth_items (ds := r) (fun d hd => h d (List.mem_cons_of_mem _ hd))
    have h1 : d.depth ≤ 1 := by
      cases h d (List.mem_cons_self ..) with
      | int _ => simp [PyData.depth]
      | tup hx => have := depth_ints hx; simp only [PyData.depth]; omega
    simp only [PyData.depthAll]
    omega
/-- repr of a list that is not empty -/
theorem repr_big {A : Around} {E : Value → Shared → Prop} {s : Shared} {Q : Value → Shared → Prop} {a : Addr} {ds : List PyData} {as : List Addr} (nd : s.heap.NoDigits) (r : Reads s.heap (.ref a) (.list ds) as) (h : ∀ d ∈ ds, BigItem d) (ne : ds ≠ [])
    (hg : A.guards = some []) (hu : A.units + 10 < cLine) (hz : (PyData.shown (.list ds)).length ≤ sizeLine) (dp : 1 < (PyData.list ds).depth)
    (hQ : ∀ h' u tk, (∀ b o, s.heap.get? b = some o → h'.get? b = some o) → Q (.str (PyData.shown (.list ds)) u) { s with heap := h', toks := tk }) : wpAny (model prog w) A (call (.builtin "repr") [.ref a]) Q E s := by
  cases r with
  | list h1 h2 h3 h4 =>
    rename_i o vs n bs₀
    obtain ⟨cs, m, k⟩ := big_items (prog := prog) (w := w) nd h4 h
    obtain ⟨l⟩ := vs
    cases l with
    | nil =>
      have h4' : ReadsAll s.heap [] ds _ := h4
      cases h4'
      exact absurd rfl ne
    | cons x l =>
      refine call_repr_slot (by omega) (T := "list") (idr := "list.__repr__") ⟨o, h1, h2⟩ F.slot_list_repr.toG ?_
      simp only [PyData.shown] at hQ hz
      exact call_list_reprK h1 h2 h3 (not_mem_of_deeper (.list h1 h2 h3 h4) dp m) (by simpa using k.length_eq) (fun i y e => k.item i y (by simpa using e)) hg (fun b _ => Clear.nil b) (by show A.units + 1 + 3 < cLine; omega) (fun _ _ e => e) (fun h' u tk hk => ⟨_, _, rfl, hQ h' u tk hk⟩) hz
end
theorem ns_none {K : PySem.W.Frag} {h : Heap} {m : Str → Option Value} {a : Addr} {n : Str} (X : K.In h) (G : h.Ns a m) (e : PySem.W.nsIn K a n = some none) : m n = none := by
  obtain ⟨ob, es, ep, here, isDict, _, get⟩ := G
  rw [← get]
  unfold PySem.W.nsIn at e
  split at e
  case h_1 q =>
    cases (X _ _ q).symm.trans here
    cases isDict
    split at e
    case h_1 => cases e
    case h_2 no => unfold nsFind findBy; simp only [← Array.find?_toList, no]; rfl
  case h_2 => cases e
theorem big_base {X : Cx} {pins : List (Addr × Obj)} {σ : L2.St} {H : Hp} {s : Shared} (dig : PySem.W.nsIn X.K cStatics "sys.int_max_str_digits" = some none) (I : Inv X pins σ H s) : s.heap.NoDigits := by
  obtain ⟨mc, hns, _⟩ := I.nolimit
  exact ⟨mc, hns, ns_none I.kIn hns dig⟩
def rReprBig (K : PySem.W.Frag) : List V → Hp → VK → Prop := fun xs H Q => ∃ a ds, xs = [.ref a] ∧ Dp K H (.ref a) (.list ds) ∧ (∀ d ∈ ds, BigItem d) ∧ ds ≠ [] ∧ 1 < (PyData.list ds).depth ∧ (PyData.shown (.list ds)).length ≤ sizeLine ∧ Q (.str (PyData.shown (.list ds))) H
theorem call_reprBig {X : Cx} (dig : PySem.W.nsIn X.K cStatics "sys.int_max_str_digits" = some none) (hg : Gd X.A) (hu : X.A.units + 64 < cLine) : CallR X (.builtin "repr") (rReprBig X.K) := by
  intro pins s σ H xs us Q I r h
  obtain ⟨a, ds, rfl, hd, hb, ne, dp, hz, q⟩ := h
  obtain ⟨u, rfl, r1⟩ := vals1 r
  cases (show u = Value.ref a from r1)
  obtain ⟨as, hr⟩ := Dp.reads I (.list ds) (.ref a) (.ref a) hd rfl
  exact repr_big (big_base dig I) hr hb ne hg (by omega) hz dp (fun h' u tk hk => ⟨.str _, H, I.kept hk, ⟨_, rfl⟩, q⟩)
/-! ### how long the text of such a list is -/
end GL
namespace GL
open PySem PySem.Spec PyProof.Rows L2
/-! ### products and quotients -/
section
variable {t : Bool} {u v f q z : Int × Int} {a b : Int}
theorem mul_comm' : mul t u v = mul t v u := by
  obtain ⟨x, y⟩ := u
  obtain ⟨z, w⟩ := v
  cases t <;> (refine Prod.ext ?_ ?_ <;> simp [mul, sl] <;> grind)
theorem mul_assoc' : mul t (mul t u v) z = mul t u (mul t v z) := by
  obtain ⟨x, y⟩ := u
  obtain ⟨x1, y1⟩ := v
  obtain ⟨x2, y2⟩ := z
  cases t <;> (refine Prod.ext ?_ ?_ <;> simp [mul, sl] <;> grind)
def padd (u v : Int × Int) : Int × Int := (u.1 + v.1, u.2 + v.2)
theorem mul_add' : mul t (padd u v) z = padd (mul t u z) (mul t v z) := by
  obtain ⟨x, y⟩ := u
  obtain ⟨x1, y1⟩ := v
  obtain ⟨x2, y2⟩ := z
  cases t <;> (refine Prod.ext ?_ ?_ <;> simp [mul, sl, padd] <;> grind)
theorem nrm_mul : nrm t (mul t u v) = nrm t u * nrm t v := by
  obtain ⟨x, y⟩ := u
  obtain ⟨z, w⟩ := v
  cases t <;> (simp [mul, sl, nrm] <;> grind)
theorem flip_flip : flip t (flip t u) = u := by
  obtain ⟨x, y⟩ := u
  cases t <;> (refine Prod.ext ?_ ?_ <;> simp [flip, sl] <;> grind)
theorem mul_flip : mul t u (flip t u) = (nrm t u, 0) := by
  obtain ⟨x, y⟩ := u
  cases t <;> (refine Prod.ext ?_ ?_ <;> simp [flip, sl, mul, nrm] <;> grind)
theorem flip_mul : flip t (mul t u v) = mul t (flip t u) (flip t v) := by
  obtain ⟨x, y⟩ := u
  obtain ⟨z, w⟩ := v
  cases t <;> (refine Prod.ext ?_ ?_ <;> simp [flip, sl, mul] <;> grind)
def low (t : Bool) (u v : Int × Int) : Int × Int := mul t u (flip t v)
theorem low_of (h : mul t f v = u) : low t u v = (f.1 * nrm t v, f.2 * nrm t v) := by
  subst h
  obtain ⟨x, y⟩ := f
  obtain ⟨z, w⟩ := v
  cases t <;> (refine Prod.ext ?_ ?_ <;> simp [low, flip, sl, mul, nrm] <;> grind)
theorem of_low (hn : nrm t v ≠ 0) (h : low t u v = (f.1 * nrm t v, f.2 * nrm t v)) : mul t f v = u := by
  have e : mul t (low t u v) v = (u.1 * nrm t v, u.2 * nrm t v) := by
    obtain ⟨x, y⟩ := u
    obtain ⟨z, w⟩ := v
    cases t <;> (refine Prod.ext ?_ ?_ <;> simp [low, flip, sl, mul, nrm] <;> grind)
  have e2 : mul t (f.1 * nrm t v, f.2 * nrm t v) v = ((mul t f v).1 * nrm t v, (mul t f v).2 * nrm t v) := by
    generalize nrm t v = n
    obtain ⟨x, y⟩ := f
    obtain ⟨z, w⟩ := v
    cases t <;> (refine Prod.ext ?_ ?_ <;> simp [sl, mul] <;> grind)
  rw [h, e2] at e
  have e3 := congrArg Prod.fst e
  have e4 := congrArg Prod.snd e
  exact Prod.ext (Int.eq_of_mul_eq_mul_right hn e3) (Int.eq_of_mul_eq_mul_right hn e4)
def quo (t : Bool) (u v : Int × Int) : Option (Int × Int) := if (low t u v).1 % nrm t v = 0 ∧ (low t u v).2 % nrm t v = 0 then some ((low t u v).1 / nrm t v, (low t u v).2 / nrm t v) else none
theorem mul_div {r n : Int} (h : r % n = 0) : r = r / n * n := by
  have := Int.mul_ediv_add_emod r n
  rw [h, Int.add_zero, Int.mul_comm] at this
  exact this.symm
theorem quo_some (hn : 0 < nrm t v) (h : quo t u v = some q) : mul t q v = u := by
  unfold quo at h
  split at h
  case isTrue c =>
    cases h
    exact of_low (Int.ne_of_gt hn) (Prod.ext (mul_div c.1) (mul_div c.2))
  case isFalse c => cases h
theorem quo_of (hn : 0 < nrm t v) (h : mul t f v = u) : quo t u v = some f := by
  have e := low_of h
  have n0 := Int.ne_of_gt hn
  unfold quo
  rw [e]
  simp only
  rw [Int.mul_emod_left, Int.mul_emod_left, if_pos ⟨rfl, rfl⟩, Int.mul_ediv_cancel _ n0, Int.mul_ediv_cancel _ n0]
/-- only the first of the four places can be it -/
theorem quo_near (hn : 0 < nrm t v) {i j : Int} (hi : 0 ≤ i ∧ i < 2) (hj : 0 ≤ j ∧ j < 2) (h : mul t ((low t u v).1 / nrm t v + i, (low t u v).2 / nrm t v + j) v = u) : i = 0 ∧ j = 0 := by
  have e := low_of h
  have e1 := congrArg Prod.fst e
  have e2 := congrArg Prod.snd e
  simp only at e1 e2
  generalize nrm t v = n at *
  have d1 := Int.mul_ediv_cancel ((low t u v).1 / n + i) (Int.ne_of_gt hn)
  have d2 := Int.mul_ediv_cancel ((low t u v).2 / n + j) (Int.ne_of_gt hn)
  rw [← e1] at d1
  rw [← e2] at d2
  omega
theorem nrm_fin : ∀ (t : Bool) (a b : Fin 41), ¬ (a.val = 20 ∧ b.val = 20) → 0 < nrm t ((a.val : Int) - 20, (b.val : Int) - 20) := by decide +kernel
theorem nrm_pos (h : Le 20 v) (h0 : v ≠ (0, 0)) : 0 < nrm t v := by
  obtain ⟨x, y⟩ := v
  obtain ⟨h1, h2⟩ : x.natAbs ≤ 20 ∧ y.natAbs ≤ 20 := h
  have z := nrm_fin t ⟨(x + 20).toNat, by omega⟩ ⟨(y + 20).toNat, by omega⟩ (fun c => h0 (by have c1 : (x + 20).toNat = 20 := c.1; have c2 : (y + 20).toNat = 20 := c.2; exact Prod.ext (by show x = 0; omega) (by show y = 0; omega)))
  have e1 : (((x + 20).toNat : Nat) : Int) - 20 = x := by omega
  have e2 : (((y + 20).toNat : Nat) : Int) - 20 = y := by omega
  simp only [e1, e2] at z
  exact z
end
/-! ### promises -/
theorem natAbs_mul_le {x y : Int} {m n : Nat} (hx : x.natAbs ≤ m) (hy : y.natAbs ≤ n) : (x * y).natAbs ≤ m * n := by rw [Int.natAbs_mul]; exact Nat.mul_le_mul hx hy
theorem Le.mul {t : Bool} {u v : Int × Int} {m n : Nat} (hu : Le m u) (hv : Le n v) : Le (3 * (m * n)) (mul t u v) := by
  have a1 := natAbs_mul_le hu.1 hv.1
  have a2 := natAbs_mul_le hu.2 hv.2
  have a3 := natAbs_mul_le hu.1 hv.2
  have a4 := natAbs_mul_le hu.2 hv.1
  obtain ⟨x, y⟩ := u
  obtain ⟨z, w⟩ := v
  simp only at a1 a2 a3 a4
  generalize m * n = k at *
  generalize e1 : x * z = p1 at *
  generalize e2 : y * w = p2 at *
  generalize e3 : x * w = p3 at *
  generalize e4 : y * z = p4 at *
  cases t <;> (refine ⟨?_, ?_⟩ <;> simp [GL.mul, sl, e1, e2, e3, e4] <;> omega)
theorem Le.nrm {t : Bool} {u : Int × Int} {m : Nat} (hu : Le m u) : (nrm t u).natAbs ≤ 3 * (m * m) := by
  have a1 := natAbs_mul_le hu.1 hu.1
  have a2 := natAbs_mul_le hu.2 hu.2
  have a3 := natAbs_mul_le hu.1 hu.2
  obtain ⟨x, y⟩ := u
  simp only at a1 a2 a3
  generalize m * m = k at *
  generalize e1 : x * x = p1 at *
  generalize e2 : y * y = p2 at *
  generalize e3 : x * y = p3 at *
  cases t <;> (simp [GL.nrm, sl, e1, e2, e3] <;> omega)
def spMProd (K : PySem.W.Frag) (C : Addr) (U : Bool → Addr) : Sp := fun vs H Q _ => ∃ g t a b u v, vs = [.ref g, .ref a, .ref b] ∧ GridAt C U H g t ∧ PAt K H a u ∧ PAt K H b v ∧ ptOk u ∧ ptOk v ∧ ∀ p, H p = none → Q (.ref p) (upd H p (.tup [.int (mul t u v).1, .int (mul t u v).2]))
/-- what stands for a quotient -/
def QAt (K : PySem.W.Frag) (H : Hp) (r : Option (Int × Int)) (x : V) : Prop := match r with | none => x = .non | some q => ∃ p, x = .ref p ∧ PAt K H p q
theorem QAt.same {K : PySem.W.Frag} {H H' : Hp} {r : Option (Int × Int)} {x : V} (h : QAt K H r x) (s : Same H H') : QAt K H' r x := by
  cases r with
  | none => exact h
  | some q => obtain ⟨p, e, hp⟩ := h; exact ⟨p, e, hp.same s⟩
def spDiv (K : PySem.W.Frag) (C : Addr) (U : Bool → Addr) : Sp := fun vs H Q _ => ∃ g t a b u v, vs = [.ref g, .ref a, .ref b] ∧ GridAt C U H g t ∧ PAt K H a u ∧ PAt K H b v ∧ Le (10 ^ 6) u ∧ Le (10 ^ 3) v ∧ 0 < nrm t v ∧ ∀ x H', Same H H' → QAt K H' (quo t u v) x → Q x H'
def spPlus (K : PySem.W.Frag) : Sp := fun vs H Q _ => ∃ a b u v, vs = [.ref a, .ref b] ∧ PAt K H a u ∧ PAt K H b v ∧ ∀ p, H p = none → Q (.ref p) (upd H p (.tup [.int (padd u v).1, .int (padd u v).2]))
def spNormL (K : PySem.W.Frag) : Sp := fun vs H Q _ => ∃ q t a u, vs = [.ref q, .ref a] ∧ PlainAt H q t ∧ PAt K H a u ∧ Sm u ∧ Q (.int (nrm t u)) H
def spFlipL (K : PySem.W.Frag) : Sp := fun vs H Q _ => ∃ q t a u, vs = [.ref q, .ref a] ∧ PlainAt H q t ∧ PAt K H a u ∧ ∀ p, H p = none → Q (.ref p) (upd H p (.tup [.int (flip t u).1, .int (flip t u).2]))
def spPlace (K : PySem.W.Frag) : Sp := fun vs H Q _ => ∃ p, vs = [.ref p] ∧ Die H p ∧ ∀ a u H', ptOk u → PAt K H' a u → Got p H H' → Q (.ref a) H'
def spSmall (K : PySem.W.Frag) : Sp := fun vs H Q _ => ∃ p, vs = [.ref p] ∧ Die H p ∧ ∀ a u H', Le 20 u → PAt K H' a u → Got p H H' → Q (.ref a) H'
def spParts (K : PySem.W.Frag) (C : Addr) (U : Bool → Addr) : Sp := fun vs H Q _ => ∃ q g t a b u v, vs = [.ref q, .ref g, .ref a, .ref b] ∧ PlainAt H q t ∧ GridAt C U H g t ∧ PAt K H a u ∧ PAt K H b v ∧ ptOk u ∧ ptOk v ∧ ∀ H', Same H H' → Q (.bl true) H'
/-! ### the list that is shown -/
def bigD (t : Bool) (u v : Int × Int) : List PyData := [ptD (mul t u v), ptD (mul t u v), .int (nrm t u), ptD (flip t u)]
theorem ptOk_le {u : Int × Int} (h : ptOk u) : Le (10 ^ 400) u := by
  obtain ⟨h1, h2⟩ := h
  rw [int_short] at h1 h2
  exact ⟨Nat.le_of_lt (of_decide_eq_true h1), Nat.le_of_lt (of_decide_eq_true h2)⟩
theorem big_of {x : Int} (h : x.natAbs ≤ 3 * (10 ^ 400 * 10 ^ 400)) : Big x := Nat.lt_of_le_of_lt h (by decide +kernel)
theorem big_pt {w : Int × Int} (h : Le (3 * (10 ^ 400 * 10 ^ 400)) w) : BigItem (ptD w) := .tup (by
  intro d hd
  simp only [List.mem_cons, List.not_mem_nil, or_false] at hd
  rcases hd with rfl | rfl
  · exact ⟨_, rfl, big_of h.1⟩
  · exact ⟨_, rfl, big_of h.2⟩)
theorem big_short {x : Int} (h : Big x) : (PyData.shown (.int x)).length ≤ 4301 := by
  have e := int_text_length_le10 (k := 4300) (by decide) h
  show (Str.ofString (toString x)).length ≤ 4301
  rw [PySem.ofString_length]
  exact e
theorem bigD_ok {t : Bool} {u v : Int × Int} (ou : ptOk u) (ov : ptOk v) : (∀ d ∈ bigD t u v, BigItem d) ∧ bigD t u v ≠ [] ∧ 1 < (PyData.list (bigD t u v)).depth ∧ (PyData.shown (.list (bigD t u v))).length ≤ sizeLine := by
  have lu := ptOk_le ou
  have lv := ptOk_le ov
  have lm : Le (3 * (10 ^ 400 * 10 ^ 400)) (mul t u v) := lu.mul lv
  have lf : Le (3 * (10 ^ 400 * 10 ^ 400)) (flip t u) := (lu.flip).mono (by decide +kernel)
  have ln : (nrm t u).natAbs ≤ 3 * (10 ^ 400 * 10 ^ 400) := lu.nrm
  refine ⟨fun d hd => ?_, (fun z => by cases z), ?_, ?_⟩
  · simp only [bigD, List.mem_cons, List.not_mem_nil, or_false] at hd
    rcases hd with rfl | rfl | rfl | rfl
    · exact big_pt lm
    · exact big_pt lm
    · exact .int (big_of ln)
    · exact big_pt lf
  · simp [bigD, ptD, PyData.depth, PyData.depthAll]
  · have z := PyData.shown_le_bulk 4301 (by decide) (.list (bigD t u v)) (by
      simp only [bigD, ptD, PyData.leavesShort, PyData.leavesShortAll, Bool.and_eq_true, Bool.and_true, decide_eq_true_eq]
      exact ⟨⟨big_short (big_of lm.1), big_short (big_of lm.2)⟩, ⟨big_short (big_of lm.1), big_short (big_of lm.2)⟩, big_short (big_of ln), big_short (big_of lf.1), big_short (big_of lf.2)⟩)
    refine Nat.le_trans z ?_
    simp [bigD, ptD, PyData.bulk, PyData.bulkAll]
    decide
theorem max_small {x y : Int} (h : ¬ (decide ((10 : Int) ^ (60 : Int).toNat < if (if y < 0 then -y else y) > (if x < 0 then -x else x) then (if y < 0 then -y else y) else (if x < 0 then -x else x)) = true)) : x.natAbs ≤ 10 ^ 60 ∧ y.natAbs ≤ 10 ^ 60 := by
  have h2 := of_decide_eq_false (Bool.not_eq_true _ ▸ h)
  have e : (10 : Int) ^ (60 : Int).toNat = ((10 ^ 60 : Nat) : Int) := by decide +kernel
  rw [e] at h2
  generalize (10 ^ 60 : Nat) = N at *
  omega
theorem Le.ok60 {u : Int × Int} {n : Nat} (h : Le n u) (hn : n ≤ 10 ^ 399) : ptOk u := by
  have b : (10 ^ 399 : Nat) < 10 ^ 400 := by decide +kernel
  exact ⟨by rw [int_short]; exact decide_eq_true (Nat.lt_of_le_of_lt (Nat.le_trans h.1 hn) b), by rw [int_short]; exact decide_eq_true (Nat.lt_of_le_of_lt (Nat.le_trans h.2 hn) b)⟩
def qD : Option (Int × Int) → PyData | none => .none | some q => ptD q
theorem qD_at {K : PySem.W.Frag} {H : Hp} {r : Option (Int × Int)} {x : V} (h : QAt K H r x) : Dp K H x (qD r) := by
  cases r with
  | none => rw [show x = V.non from h]; exact .non
  | some q => obtain ⟨p, rfl, hp⟩ := h; exact ptD_at hp
theorem int_shown6 {x : Int} (h : x.natAbs ≤ 10 ^ 6) : (PyData.shown (.int x)).length ≤ 13 := by
  have e := int_text_length_le10 (a := x) (k := 7) (by decide) (Nat.lt_of_le_of_lt h (by decide))
  show (Str.ofString (toString x)).length ≤ 13
  rw [PySem.ofString_length]
  exact Nat.le_trans e (by decide)
theorem qD_ok {r : Option (Int × Int)} (h : ∀ q, r = some q → Le (10 ^ 6) q) : (qD r).showable = true ∧ (qD r).hasDict = false ∧ (qD r).depth ≤ 20 ∧ (qD r).shown.length ≤ sizeLine := by
  cases r with
  | none => exact ⟨by decide +kernel, by decide +kernel, by decide +kernel, by decide +kernel⟩
  | some u =>
    have h := h u rfl
    have sh : ∀ {x : Int}, x.natAbs ≤ 10 ^ 6 → x.natAbs.log2 < 1920 := fun {x} h => Nat.lt_of_lt_of_le (PySem.Flt.log2_lt_of (show 0 < 20 by decide) (Nat.lt_of_le_of_lt h (show 10 ^ 6 < 2 ^ 20 by decide))) (by decide)
    have z := PyData.shown_le_bulk 13 (by decide) (ptD u) (by
      simp only [ptD, PyData.leavesShort, PyData.leavesShortAll, Bool.and_eq_true, Bool.and_true, decide_eq_true_eq]
      exact ⟨int_shown6 h.1, int_shown6 h.2⟩)
    refine ⟨?_, by simp [qD, ptD, PyData.hasDict, PyData.hasDictAll], by simp [qD, ptD, PyData.depth, PyData.depthAll], Nat.le_trans z (by simp [ptD, PyData.bulk, PyData.bulkAll]; decide)⟩
    simp only [qD, ptD, PyData.showable, PyData.showableAll, Bool.and_eq_true, Bool.and_true, decide_eq_true_eq]
    exact ⟨sh h.1, sh h.2⟩
def spQuots (C : Addr) (U : Bool → Addr) : Sp := fun vs H Q _ => ∃ p q g t, vs = [.ref p, .ref q, .ref g] ∧ Die H p ∧ PlainAt H q t ∧ GridAt C U H g t ∧ ∀ H', Got p H H' → Q (.bl true) H'
theorem quo_cases {t : Bool} {u v : Int × Int} : quo t u v = none ∨ quo t u v = some ((low t u v).1 / nrm t v, (low t u v).2 / nrm t v) := by
  unfold quo
  split
  · exact .inr rfl
  · exact .inl rfl
theorem div_small {a b : Int} {n : Nat} (h : a.natAbs ≤ n) : (a / b).natAbs ≤ n := Nat.le_trans (Int.natAbs_ediv_le_natAbs a b) h
end GL
/-! comparing instances of one class with an own == -/
namespace GL
open PySem PySem.Spec PyProof.Rows L2
section
variable {X : Cx} {CX : CXT} {k : Nat} {C : Addr} {sp : Sp} {E : XK}
theorem op_eqM (h : HasM X.prog X.w X.K X.mg X.base CX C "__eq__" k ["self", "other"] sp) (g : Gd X.A) (hr : Room k X.A) (hx : Passes CX X E) :
    OpR X (compareOp .Eq) (fun x y H Q => ∃ a b dx dy fs gs, x = .ref a ∧ y = .ref b ∧ H a = some (.ins C dx fs) ∧ H b = some (.ins C dy gs) ∧ sp [.ref a, .ref b] H (fun v H' => ∃ r, v = .bl r ∧ Q (.bl r) H') E) := by
  intro pins s σ H x y v u Q I rx ry hq
  obtain ⟨a, b, dx, dy, fs, gs, rfl, rfl, ha, hb, q⟩ := hq
  cases (show v = Value.ref a from rx)
  cases (show u = Value.ref b from ry)
  obtain ⟨f, fd, F, M, bi⟩ := h.ex
  obtain ⟨_, O1, _⟩ := ins_get I.hok ha
  obtain ⟨_, O2, _⟩ := ins_get I.hok hb
  obtain ⟨od, J, _⟩ := O1.look
  obtain ⟨od', J', _⟩ := O2.look
  obtain ⟨m', fr⟩ := I.fr
  have b1 := bi s [.ref a, .ref b] I.kIn rfl
  rw [List.append_nil] at b1
  show wpAny (model X.prog X.w) X.A (richCompare .Eq (.ref a) (.ref b)) (EP X pins σ Q) X.xe s
  refine PySem.W.cmp_K (op := .Eq) (tb := .ref C) (by have := hr.un; omega) fr I.mod.kin J J'.type (by simp [PySem.W.notFirst]) M.at_ M.fn ?_
  apply wpAny_call
  refine codeAny_mono (F.go g hr I.env0 b1 (vs := [.ref a, .ref b]) (.cons rfl (.cons rfl .nil)) q) (fun res s' z => ?_)
  match res, z with
  | .error _, z => exact hx pins σ H s _ s' I z
  | .ok (.ret _), z =>
    obtain ⟨v, H', I', rv, r, rfl, q2⟩ := I.after z
    cases (show _ = Value.bool r from rv)
    exact ⟨.bl r, H', I', rfl, q2⟩
end
end GL
/-! comparing an instance that has an own == with anything; str of an instance -/
namespace GL
open PySem PySem.Spec PyProof.Rows L2
section
variable {prog : Program} {w : World} {A : Around} {E : Value → Shared → Prop} {s : Shared} {K : PySem.W.Frag} {x C L f : Addr} {h₀ : Heap} {m : Str → Option Value} {ox : Obj} {od : Option Obj} {b tb : Value}
open PySem.W PySem.Calls Builtin in
theorem ne_own {Q : Value → Shared → Prop} (hu : A.units < cLine) (hu1 : A.in1.units < cLine) (F : Fr h₀ L s.heap m) (X₀ : K.In h₀) (I : InstAt s.heap x ox C od) (hb : Looks (model prog w) s.heap (typeOf b) tb) (hn : notFirst K C tb = true)
    (hs : findIn K (.ref C) "__eq__" = some (some (.ref f))) (hf : isFn K (.ref f) = true) (hne : findIn K (.ref C) "__ne__" = some (some (.builtin "object.__ne__"))) (hob : subIn K (.ref C) (.type "object") = some true)
    (h : wpAny (model prog w) A.in1 (call (.ref f) [.ref x, b]) (fun v s' => ∃ r, v = .bool r ∧ Q (.bool (!r)) s') E s) : wpAny (model prog w) A (richCompare .NotEq (.ref x) b) Q E s := by
  have X := X₀.keeps F.keep
  have isob : Looks (model prog w) s.heap (isInstance (.ref x) (.type "object")) true := I.type.andThen (looks_subIn X hob)
  have run : wpAny (model prog w) A (call (.builtin "object.__ne__") ([.ref x] ++ [b])) (fun v s' => ∃ r, v = .bool r ∧ Q (.bool r) s') E s := by
    refine wpAny_call (codeAny_call_builtin (by decide +kernel) PySem.F.cmpEntry_ne (check_slot PySem.F.cmpKind_ne PySem.F.cmpSplit_ne isob (PySem.F.cmpArgs_ne _ _) ?_))
    unfold Builtin.«object.__ne__»
    refine wpAny_bind (m := slotArgs "__ne__" 1 _) (wpAny_pure ?_)
    refine wpAny_bind (wpAny_cRoomFor hu1 ?_)
    refine wpAny_bind (m := callSpecialIfBound? (.ref x) (Str.ofString "__eq__") _) (ifBound_K X I hs hf (wpAny_mono h (fun v s' hv => ?_) fun _ _ e => e))
    obtain ⟨r, rfl, q⟩ := hv
    refine wpAny_bind (m := truthy (.bool r)) (wpAny_pure ?_)
    exact wpAny_pure ⟨!r, rfl, q⟩
  have one : wpAny (model prog w) A (tryCompare (.ref x) "__ne__" b) (fun r s' => ∃ v, r = some (.bool v) ∧ Q (.bool v) s') E s := by
    unfold tryCompare
    refine wpAny_bind ?_
    simp only [callSpecialIfBound?, bindSpecialIfBound?]
    refine wpAny_holding (wpAny_bind (wpAny_bind (wpAny_bind (I.type.here ((looks_findIn X hne).here ?_)))))
    have bd : bindSpecial (.builtin "object.__ne__") (.ref x) = pure (.builtin "object.__ne__", [.ref x]) := PySem.F.cmp_object.ne.bind _
    refine wpAny_bind (wpAny_askSetting (wpAny_ite ?_))
    have fin : wpAny (model prog w) A (call (.builtin "object.__ne__") ([.ref x] ++ [b]) >>= fun v => pure (some v)) (fun r s' => ∃ v, r = some (.bool v) ∧ Q (.bool v) s') E s :=
      wpAny_bind (wpAny_mono run (fun v s' h' => by obtain ⟨r, rfl, q⟩ := h'; exact wpAny_pure ⟨r, rfl, q⟩) fun _ _ h' => h')
    have fin2 : wpAny (model prog w) A (call (.builtin "object.__ne__") ([.ref x] ++ [b]) >>= fun v => pure (some v)) (fun r s' => wpAny (model prog w) A (match r with | some .notImplemented | none => pure none | some v => pure (some v)) (fun r s' => ∃ v, r = some (.bool v) ∧ Q (.bool v) s') E s') E s :=
      wpAny_mono fin (fun r s' h' => by obtain ⟨v, rfl, q⟩ := h'; exact wpAny_pure ⟨v, rfl, q⟩) fun _ _ e => e
    simp only [bd]
    split
    · exact wpAny_bind (wpAny_pure (wpAny_pure fin2))
    · exact wpAny_tryCatch (wpAny_bind (wpAny_pure (wpAny_pure fin2)))
  unfold richCompare
  simp only [oneThing_ref]
  refine wpAny_holding (wpAny_bind (wpAny_cRoomFor hu ?_))
  refine wpAny_bind (I.type.here (wpAny_bind (hb.here ?_)))
  have tail : wpAny (model prog w) A (do
      if let some v ← tryCompare (.ref x) "__ne__" b then return v
      if let some v ← tryCompare b "__ne__" (.ref x) then return v
      rule "compare.ne-identity"; return .bool (!(← isSame (.ref x) b))) Q E s := by
    refine wpAny_bind (wpAny_mono one (fun r s' z => ?_) fun _ _ e => e)
    obtain ⟨v, rfl, q⟩ := z
    exact wpAny_pure q
  split
  · rename_i q
    have e : subIn K tb (.ref C) = some false := by
      rcases Bool.or_eq_true_iff.mp hn with e | e
      · rw [beq_iff_eq.mp e] at q; simp at q
      · exact beq_iff_eq.mp e
    refine wpAny_bind ((looks_subIn X e).here ?_)
    exact tail
  · exact tail
end

section
variable {X : Cx} {CX : CXT} {k : Nat} {C : Addr} {sp : Sp} {E : XK}
/-- what of a class stands in the text, for its == and != -/
structure EqC (K : PySem.W.Frag) (C : Addr) : Prop where
  ne : PySem.W.findIn K (.ref C) "__ne__" = some (some (.builtin "object.__ne__"))
  ob : PySem.W.subIn K (.ref C) (.type "object") = some true
/-- x is an instance of C, y is of a type that is no subclass of C -/
def rEqA (K : PySem.W.Frag) (C : Addr) (sp : Sp) (E : XK) (neg : Bool) : R2 := fun x y H Q => ∃ a dx fs t, x = .ref a ∧ H a = some (.ins C dx fs) ∧ TyX K H y t ∧ PySem.W.notFirst K C t = true ∧
  sp [.ref a, y] H (fun v H' => ∃ r, v = .bl r ∧ Q (.bl (neg != r)) H') E
theorem op_eqA (h : HasM X.prog X.w X.K X.mg X.base CX C "__eq__" k ["self", "other"] sp) (g : Gd X.A) (hr : Room k X.A) (hx : Passes CX X E) :
    OpR X (compareOp .Eq) (rEqA X.K C sp E false) := by
  intro pins s σ H x y v u Q I rx ry hq
  obtain ⟨a, dx, fs, t, rfl, ha, ty, nf, q⟩ := hq
  cases (show v = Value.ref a from rx)
  obtain ⟨f, fd, F, M, bi⟩ := h.ex
  obtain ⟨_, O1, _⟩ := ins_get I.hok ha
  obtain ⟨od, J, _⟩ := O1.look
  obtain ⟨Z, KX, z, _⟩ := kit_of I ry ty
  obtain ⟨m', fr⟩ := I.fr
  have b1 := bi s [.ref a, u] I.kIn rfl
  rw [List.append_nil] at b1
  show wpAny (model X.prog X.w) X.A (richCompare .Eq (.ref a) u) (EP X pins σ Q) X.xe s
  refine PySem.W.cmp_K (op := .Eq) (tb := t) (by have := hr.un; omega) fr I.mod.kin J (KX.ty _ _ I.kIn z) nf M.at_ M.fn ?_
  apply wpAny_call
  refine codeAny_mono (F.go g hr I.env0 b1 (vs := [.ref a, y]) (.cons rfl (.cons ry .nil)) q) (fun res s' z => ?_)
  match res, z with
  | .error _, z => exact hx pins σ H s _ s' I z
  | .ok (.ret _), z =>
    obtain ⟨v, H', I', rv, r, rfl, q2⟩ := I.after z
    cases (show _ = Value.bool r from rv)
    exact ⟨.bl r, H', I', rfl, by simpa using q2⟩
theorem op_neA (h : HasM X.prog X.w X.K X.mg X.base CX C "__eq__" k ["self", "other"] sp) (e : EqC X.K C) (g : Gd X.A) (hr : Room (k + 1) X.A) (hx : Passes CX X E) :
    OpR X (compareOp .NotEq) (rEqA X.K C sp E true) := by
  intro pins s σ H x y v u Q I rx ry hq
  obtain ⟨a, dx, fs, t, rfl, ha, ty, nf, q⟩ := hq
  cases (show v = Value.ref a from rx)
  obtain ⟨f, fd, F, M, bi⟩ := h.ex
  obtain ⟨_, O1, _⟩ := ins_get I.hok ha
  obtain ⟨od, J, _⟩ := O1.look
  obtain ⟨Z, KX, z, _⟩ := kit_of I ry ty
  obtain ⟨m', fr⟩ := I.fr
  have b1 := bi s [.ref a, u] I.kIn rfl
  rw [List.append_nil] at b1
  show wpAny (model X.prog X.w) X.A (richCompare .NotEq (.ref a) u) (EP X pins σ Q) X.xe s
  refine ne_own (tb := t) (by have := hr.un; omega) (by have := hr.in1.un; omega) fr I.mod.kin J (KX.ty _ _ I.kIn z) nf M.at_ M.fn e.ne e.ob ?_
  apply wpAny_call
  refine codeAny_mono (F.go (A := X.A.in1) g hr.in1 I.env0.in1 b1 (vs := [.ref a, y]) (.cons rfl (.cons ry .nil)) q) (fun res s' z => ?_)
  match res, z with
  | .error _, z => exact hx pins σ H s _ s' I z
  | .ok (.ret _), z =>
    obtain ⟨v, H', I', rv, r, rfl, q2⟩ := I.after z
    cases (show _ = Value.bool r from rv)
    exact ⟨r, rfl, .bl (!r), H', I', rfl, by simpa using q2⟩
/-- str of an instance whose class has its own __str__ -/
def rStrM (C : Addr) (sp : Sp) (E : XK) : List V → Hp → VK → Prop := fun xs H Q => ∃ a dx fs, xs = [.ref a] ∧ H a = some (.ins C dx fs) ∧ sp [.ref a] H (fun v H' => ∃ y, v = .str y ∧ Q (.str y) H') E
theorem call_strM (h : HasM X.prog X.w X.K X.mg X.base CX C "__str__" k ["self"] sp) (g : Gd X.A) (hr : Room (k + 2) X.A) (hx : Passes CX X E) :
    CallR X (.type "str") (rStrM C sp E) := by
  intro pins s σ H xs us Q I r q
  obtain ⟨a, dx, fs, rfl, ea, q1⟩ := q
  obtain ⟨f, fd, F, M, b⟩ := h.ex
  obtain ⟨u, rfl, ru⟩ := vals1 r
  cases (show u = Value.ref a from ru)
  obtain ⟨mA, O, _⟩ := ins_get I.hok ea
  obtain ⟨od, J, _⟩ := O.look
  have b1 := b s [.ref a] I.kIn rfl
  rw [List.append_nil] at b1
  refine PySem.W.kso_call (by have := hr.in1.in1.un; omega) I.kIn J M.at_ M.fn ?_
  apply wpAny_call
  refine codeAny_mono (F.go (A := X.A.in1.in1) g hr.in1.in1 I.env0.in1.in1 b1 (vs := [.ref a]) (.cons rfl .nil) q1) (fun res s' z => ?_)
  match res, z with
  | .error _, z => exact hx pins σ H s _ s' I z
  | .ok (.ret _), z =>
    obtain ⟨v, H', I', rv, y, rfl, q2⟩ := I.after z
    obtain ⟨t, rfl⟩ := rv
    exact ⟨.str y, H', I', ⟨_, rfl⟩, q2⟩
end
end GL
/-! list of an instance whose __iter__ hands out the iterator of a tuple -/
namespace GL
open PySem PySem.Spec PyProof.Rows L2
/-- at it the iterator of the tuple at t, with i things taken -/
def ItT (t it : Addr) (i : Nat) : HO := .ext fun h => h.IsTupleIter it t i
def ItX (it : Addr) : HO := .ext fun h => ∃ o, h.get? it = some o
section
variable {X : Cx} {pins : List (Addr × Obj)} {σ : L2.St} {H : Hp} {s : Shared} {t it : Addr} {i : Nat}
theorem itT_ok {P : Program} {w : World} {H : Hp} {h : Heap} (e : h.IsTupleIter it t i) : ObjOk P w H h it (ItT t it i) := ⟨e, let ⟨o, ho, _⟩ := e; ⟨o, ho⟩, fun h1 h2 q k => Heap.IsTupleIter.at q k⟩
theorem itX_ok {P : Program} {w : World} {H : Hp} {h : Heap} {o : Obj} (e : h.get? it = some o) : ObjOk P w H h it (ItX it) := ⟨⟨o, e⟩, ⟨o, e⟩, fun h1 h2 ⟨o, q⟩ k => ⟨o, k _ q⟩⟩
theorem itT_get (I : Inv X pins σ H s) (e : H it = some (ItT t it i)) : s.heap.IsTupleIter it t i := (I.hok it _ e).1
/-- iter(t), t a tuple -/
def rIterT (K : PySem.W.Frag) : List V → Hp → VK → Prop := fun xs H Q => ∃ (l : Addr) (zs : List V), xs = [.ref l] ∧ SqT K H l zs ∧ ∀ it, H it = none → Q (.ref it) (upd H it (ItT l it 0))
theorem call_iterT : CallR X (.builtin "iter") (rIterT X.K) := by
  intro pins s σ H xs us Q I r h
  obtain ⟨l, zs, rfl, hq, q⟩ := h
  obtain ⟨u, rfl, ru⟩ := vals1 r
  cases (show u = Value.ref l from ru)
  obtain ⟨its, rv, tp, hz⟩ := I.tuple hq
  refine Calls.call_function_entry (by decide +kernel) (by decide +kernel) PySem.W.kdk_entry_iter (PySem.W.kdk_args_iter _) ?_
  unfold Builtin.«iter»
  refine wpAny_bind (m := someArgs "iter" 1 2 _) (wpAny_of_eq (a := [Value.ref l]) (by first | rfl | kernel_rfl!) ?_)
  show wpAny _ _ (pyIter (.ref l) >>= _) _ _ _
  refine wpAny_bind (wpAny_pyIter_tuple tp ?_)
  refine wpAny_pure ⟨_, rfl, ?_⟩
  exact ⟨.ref s.heap.objs.size, _, I.laid (t' := s.toks) (fun b u e => Heap.get?_push_of_some _ e) (Nat.le_refl _) (itT_ok ⟨_, Heap.get?_push_size _ rfl, rfl, rfl⟩), rfl, q _ (I.hok.fresh (Nat.le_refl _))⟩
end
section
variable {prog : Program} {w : World} {A : Around} {E : Value → Shared → Prop} {s : Shared}
/-- the end of a tuple's iterator, with what stands at it then -/
theorem tup_end {it t : Addr} {i : Nat} {items} {Q : Option Value → Shared → Prop} (hh : A.handled = none)
    (hit : s.heap.IsTupleIter it t i) (ht : s.heap.IsTuple t items) (hx : items[i]? = none)
    (hQ : ∀ h', Heap.ExtBut it s.heap h' → (∃ o, h'.get? it = some o) → Q none { s with heap := h' }) : wpAny (model prog w) A (pyNext (.ref it)) Q E s := by
  obtain ⟨o, ho, hc, hd⟩ := id hit
  obtain ⟨ol, hol, _, nl, hdl⟩ := ht
  unfold pyNext
  refine wpAny_bind (wpAny_attempt (wpAny_callSpecial?_slot (name := Str.ofString "__next__") hit.typeIs F.slot_tuple_iterator_next
    (wpAny_call_entry F.slot_tuple_iterator_next hit.typeIs F.entry_tuple_iterator_next ?_ (F.args_tuple_iterator_next_1 _))))
  show wpAny _ _ (field (.ref it) 0 >>= _) _ _ s
  refine wpAny_bind (wpAny_field ho hd (x := .ref t) rfl ?_)
  show wpAny _ _ (if (Value.ref t == Value.none) = true then _ else _) _ _ s
  rw [if_neg (show ¬ ((Value.ref t == Value.none) = true) from Bool.false_ne_true)]
  show wpAny _ _ (field (.ref it) 1 >>= _) _ _ s
  refine wpAny_bind (wpAny_field ho hd (x := .int i 0) rfl ?_)
  show wpAny _ _ (seqItems? (.ref t) >>= _) _ _ s
  refine wpAny_bind (wpAny_seqItems hol hdl ?_)
  simp only [Int.toNat_natCast, hx]
  refine wpAny_bind (wpAny_rule (wpAny_bind (wpAny_setField ho hd (by simp) ?_)))
  show wpAny _ _ (newExc (.type "StopIteration") [] >>= _) _ _ _
  refine wpAny_bind ?_
  simp only [newExc, newTuple]
  refine wpAny_bind (wpAny_newObj_type ?_ (by size_fits))
  refine wpAny_bind (m := firstArgMember _ _) (wpAny_of_eq (a := Value.none) (by first | rfl | (simp only [firstArgMember]; rfl)) ?_)
  refine wpAny_newObj_type ?_ (by size_fits)
  simp only [raiseNew]
  refine wpAny_bind (wpAny_handled ?_)
  first | rw [show A.in1.handled = none from hh] | rw [hh]
  refine wpAny_bind (wpAny_pure (wpAny_throw ?_))
  refine wpAny_bind (wpAny_isInstance (T := "StopIteration") (b := true) ⟨_, Heap.get?_push_size _ rfl, rfl⟩ isSubtype_stop ?_)
  exact wpAny_pure (hQ _ (((Heap.SameBut.update ..).extBut.push _).push _) ⟨_, Heap.get?_push_of_some _ (Heap.get?_push_of_some _ (Heap.get?_update_self _ ho (Obj.isFreed_of_fields (Obj.data_mapFields hd _))))⟩)
end
section
variable {X : Cx} {pins : List (Addr × Obj)} {σ : L2.St} {H1 : Hp} {q it t a : Addr} {zs : List V} {A1 : Around}
/-- the walk that fills the list at q out of the iterator at it -/
theorem it_loop {Rs : Result → Shared → Prop} (hh : A1.in1.handled = none) (hz : zs.length ≤ 1000) (qi : q ≠ it) (st : ∀ H : Hp, (∀ b o, b ≠ q → b ≠ it → H1 b = some o → H b = some o) → SqT X.K H t zs)
    (hdone : ∀ H s, Inv X pins σ H s → (∀ b o, b ≠ q → b ≠ it → H1 b = some o → H b = some o) → H q = some (.lst zs) → Rs (.ok (.ret .none)) s) :
    ∀ (k i : Nat) (H : Hp) (s : Shared), zs.length - i = k → i ≤ zs.length → Inv X pins σ H s → (∀ b o, b ≠ q → b ≠ it → H1 b = some o → H b = some o) → H it = some (ItT t it i) → H q = some (.lst (zs.take i)) →
      codeAny (model X.prog X.w) A1 (.builtin "list.extend.loop" ⟨[.ref q, .ref it, .none], []⟩) Rs s := by
  intro k
  induction k with
  | zero =>
    intro i H s hk hi I keep hit hq
    have ei : i = zs.length := by omega
    subst ei
    refine codeAny_builtin PySem.F.entry_extend_loop ?_
    rw [Around.under_plainId PySem.F.plain_extend_loop _]
    show wpAny _ A1.in1 (pyNext (.ref it) >>= _) _ _ s
    obtain ⟨its, rv, tp, _⟩ := I.tuple (st H keep)
    refine wpAny_bind (tup_end hh (itT_get I hit) tp (by rw [List.getElem?_toArray]; exact rv.none_of (List.getElem?_eq_none (Nat.le_refl _))) (fun h' ex ⟨o, eo⟩ => ?_))
    have I2 : Inv X pins σ (upd H it (ItX it)) { s with heap := h' } := I.write (x := it) (e := it) (t' := s.toks) (by rw [hit]; exact True.intro) (.inl rfl) (fun b o nb z => ex b o nb z) ⟨_, eo⟩ (itX_ok eo)
    refine wpAny_pure (hdone _ _ I2 (fun b o nq ni z => by rw [upd_ne ni]; exact keep b o nq ni z) ?_)
    rw [upd_ne qi, hq, List.take_length]
  | succ k ih =>
    intro i H s hk hi I keep hit hq
    refine codeAny_builtin PySem.F.entry_extend_loop ?_
    rw [Around.under_plainId PySem.F.plain_extend_loop _]
    show wpAny _ A1.in1 (pyNext (.ref it) >>= _) _ _ s
    obtain ⟨its, rv, tp, _⟩ := I.tuple (st H keep)
    have hlt : i < zs.length := by omega
    obtain ⟨u, hu, ru⟩ := rv.get (List.getElem?_eq_getElem hlt)
    refine wpAny_bind (wpAny_pyNext_tuple_item (itT_get I hit) tp (by rw [List.getElem?_toArray]; exact hu) (fun h' e' sb => ?_))
    have I2 : Inv X pins σ (upd H it (ItT t it (i + 1))) { s with heap := h' } := I.write (x := it) (e := it) (t' := s.toks) (by rw [hit]; exact True.intro) (.inl rfl) (fun b o nb z => (sb.2 b nb).trans z) (let ⟨o, ho, _⟩ := e'; ⟨o, ho⟩) (itT_ok e')
    have hq2 : upd H it (ItT t it (i + 1)) q = some (.lst (zs.take i)) := by rw [upd_ne qi]; exact hq
    show wpAny _ A1.in1 (updateSeq q (·.push u) >>= _) _ _ _
    obtain ⟨z, its', k', r2, hl, e⟩ := I2.lstM hq2
    have hsz : its'.length ≤ 1000 := by rw [← hl, List.length_take]; omega
    have big : 1000 < sizeLine := by rw [sizeLine_eq]; decide
    refine wpAny_bind (wpAny_updateSeq e rfl (wpAny_pure ⟨plainId_quiet PySem.F.plain_extend_loop _, ?_⟩) (by rw [List.size_toArray]; omega) (by show (its'.toArray.push u).size ≤ sizeLine + 1; rw [Array.size_push, List.size_toArray]; omega))
    have I3 := I2.lset (its' := its' ++ [u]) (ys := zs.take i ++ [zs[i]]) (f := (·.push u)) (t' := s.toks) hq2 e (by simp) (r2.append (.cons ru .nil)) (by rw [List.length_append, List.length_singleton, List.length_take]; omega)
    refine ih (i + 1) _ _ (by omega) (by omega) I3 (fun b o nq ni z => by rw [upd_ne nq, upd_ne ni]; exact keep b o nq ni z) (by rw [upd_ne qi.symm, upd_same]) (by rw [upd_same, List.take_add_one, List.getElem?_eq_getElem hlt]; rfl)
end

section
variable {X : Cx} {CX CX' : CXT} {k k' : Nat} {C : Addr} {sp spL : Sp} {E : XK}
/-- list(o): __iter__ hands out the iterator of a tuple, __len__ says how long it is -/
def rListIt (K : PySem.W.Frag) (C : Addr) (sp spL : Sp) (E : XK) : List V → Hp → VK → Prop := fun xs H Q => ∃ a dx fs, xs = [.ref a] ∧ H a = some (.ins C dx fs) ∧
  ∀ q, H q = none → sp [.ref a] (upd H q (.lst [])) (fun v H1 => ∃ it t zs, v = .ref it ∧ H1 it = some (ItT t it 0) ∧ H1 q = some (.lst []) ∧ H1 a = some (.ins C dx fs) ∧ zs.length ≤ 1000 ∧
    (∀ H : Hp, (∀ b o, b ≠ q → b ≠ it → H1 b = some o → H b = some o) → SqT K H t zs) ∧ spL [.ref a] H1 (fun v H2 => v = .int zs.length ∧ H2 = H1) E ∧
    ∀ H2, (∀ b o, b ≠ q → b ≠ it → H1 b = some o → H2 b = some o) → H2 q = some (.lst zs) → Q (.ref q) H2) E
theorem call_listIt (h : HasM X.prog X.w X.K X.mg X.base CX C "__iter__" k ["self"] sp) (hl : HasM X.prog X.w X.K X.mg X.base CX0 C "__len__" k ["self"] spL) (g : Gd X.A) (hr : Room (k + 3) X.A) (hx : Passes CX X E) :
    CallR X (.type "list") (rListIt X.K C sp spL E) := by
  intro pins s σ H xs us Q I r asked
  obtain ⟨a, dx, fs, rfl, ha, hq⟩ := asked
  obtain ⟨f, fd, F, M, bi⟩ := h.ex
  obtain ⟨fl, fdl, FL, ML, bl⟩ := hl.ex
  obtain ⟨u, rfl, ru⟩ := vals1 r
  cases (show u = Value.ref a from ru)
  refine callType_codes (Q₁ := fun obj s₁ => obj = .ref s.heap.objs.size ∧ s₁ = { s with heap := s.heap.push { cls := .type "list", data := .seq #[] } }) PySem.F.called_list (PySem.F.typeCall_list_1 _) PySem.F.entry_list_init
    (code_list_new _ ⟨rfl, rfl⟩) fun obj s₁ h₁ => ?_
  obtain ⟨rfl, rfl⟩ := h₁
  have hS : (s.heap.push { cls := .type "list", data := .seq #[] }).get? s.heap.objs.size = some { cls := .type "list", data := .seq #[] } := Heap.get?_push_size _ rfl
  refine ⟨⟨_, hS, rfl⟩, PySem.F.args_list_init_2 _ _, ?_⟩
  have fr : H s.heap.objs.size = none := I.hok.fresh (Nat.le_refl _)
  have asked := hq _ fr
  generalize hqq : s.heap.objs.size = q at *
  have I1 : Inv X pins σ (upd H q (.lst [])) { s with heap := s.heap.push { cls := .type "list", data := .seq #[] } } := by
    rw [← hqq]; exact I.lnew (its := []) (t' := s.toks) .nil (Nat.zero_le _)
  show wpAny _ _ (do let old ← Builtin.List.listItems (.ref q); Builtin.List.listUpdate (.ref q) (fun _ => #[]); letGo old.toList.reverse; Builtin.List.listExtendWith (.ref q) (.ref a) .none) _ _ _
  refine wpAny_bind ?_
  unfold Builtin.List.listItems
  refine wpAny_bind (wpAny_seqItems hS rfl (wpAny_pure ?_))
  show wpAny _ _ (updateSeq q (fun _ => #[]) >>= fun _ => letGo (#[] : Array Value).toList.reverse >>= fun _ => Builtin.List.listExtendWith (.ref q) (.ref a) .none) _ _ _
  refine wpAny_bind (wpAny_updateSeq hS rfl ?_)
  have I2 := I1.lset (f := fun _ => #[]) (its := []) (its' := []) (ys := []) (t' := s.toks) upd_same hS rfl .nil (Nat.zero_le _)
  rw [upd_upd] at I2
  refine wpAny_bind (wpAny_letGo ?_)
  have ha2 : upd H q (.lst []) a = some (.ins C dx fs) := by rw [upd_ne (ne_of_none ha fr)]; exact ha
  have hne : q ≠ a := fun z => by rw [z] at fr; rw [fr] at ha; cases ha
  have i2 : Sub X (k + 1) X.A.in1.in1 := (Sub.in1 (Sub.in1 (⟨hr, rfl⟩ : Sub X (k + 3) X.A)))
  generalize hB : X.A.in1 = A1 at *
  obtain ⟨mA, J, _⟩ := ins_get I2.hok ha2
  obtain ⟨od, J, _⟩ := J.look
  obtain ⟨m0, hF⟩ := I2.fr
  unfold Builtin.List.listExtendWith
  refine wpAny_bind (J.type.here ?_)
  have h1 : Builtin.List.listSameRef (.ref q) (.ref a) = false := by simp [Builtin.List.listSameRef, hne]
  have h2 : (Value.ref C == Value.type "list") = false := rfl
  have h3 : (Value.ref C == Value.type "tuple") = false := rfl
  simp only [h1, h2, h3, Bool.or_false, Bool.false_eq_true, if_false]
  refine wpAny_bind (PySem.W.owit_iter hF I2.ok.mod.kin J M.at_ M.fn ?_)
  have e0 : ∀ {H s}, Inv X pins σ H s → Env0 X.prog X.w X.K X.mg X.base A1.in1 X.stack s H := by
    intro H s I
    have e := I.env0
    exact ⟨by rw [i2.fr]; exact e.frames, e.mod, e.bs, e.bsz, e.funs, e.frf, e.hok, e.bare⟩
  have e0' : ∀ {H s}, Inv X pins σ H s → Env0 X.prog X.w X.K X.mg X.base A1.in1.in1 X.stack s H := by
    intro H s I
    have e := I.env0
    exact ⟨by rw [(Sub.in1 i2).fr]; exact e.frames, e.mod, e.bs, e.bsz, e.funs, e.frf, e.hok, e.bare⟩
  have b1 := bi { s with heap := (s.heap.push { cls := .type "list", data := .seq #[] }).update q (Obj.mapSeq fun _ => #[]) } [.ref a] I2.kIn rfl
  rw [List.append_nil] at b1
  have gd1 : Gd A1.in1 := by rw [← hB]; exact g
  refine wpAny_call (codeAny_mono (F.go (A := A1.in1) gd1 (i2.room.mono (by omega)) (e0 I2) b1 (vs := [.ref a]) (.cons rfl .nil) asked) fun r s' hq' => ?_)
  match r, hq' with
  | .error e, hq' => exact hx pins σ _ _ e s' I2 hq'
  | .ok (.ret u), hq' =>
    obtain ⟨v, H1, I3, rv, it, t, zs, rfl, hit, hq1, ha1, hz, st, sl, hQ⟩ := I2.after hq'
    cases (show u = Value.ref it from rv)
    have qi : q ≠ it := fun z => by rw [z] at hq1; rw [hit] at hq1; cases hq1
    unfold PySem.W.OwitIt
    refine wpAny_specialOf (itT_get I3 hit).typeIs PySem.F.slot_tuple_iterator_next.lookup ?_
    obtain ⟨mA', J', _⟩ := ins_get I3.hok ha1
    obtain ⟨od', J', _⟩ := J'.look
    obtain ⟨m1, hF'⟩ := I3.fr
    refine wpAny_bind (wpAny_holding ?_)
    have loopE : ∀ {s'}, Inv X pins σ H1 s' → codeAny (model X.prog X.w) A1 (.builtin "list.extend.loop" ⟨[.ref q, .ref it, .none], []⟩) (wants (fun r s₂ => r = .none ∧ EP X pins σ Q (.ref q) s₂) X.xe) s' := fun {s'} I' =>
      it_loop (H1 := H1) (by rw [show A1.in1.handled = X.A.handled by rw [← hB]]; exact hr.hd) hz qi st (fun H2 s2 I2 kp e => ⟨rfl, .ref q, H2, I2, rfl, hQ H2 kp e⟩) zs.length 0 H1 s' (by omega) (Nat.zero_le _) I' (fun b o _ _ e => e) hit hq1
    have b2 := bl { s' with heap := s'.heap } [.ref a] I3.kIn rfl
    rw [List.append_nil] at b2
    unfold Builtin.List.listLengthHint
    refine wpAny_bind (wpAny_bind (J'.type.here ((PySem.W.looks_findIn I3.kIn ML.at_).here ?_)))
    refine PySem.W.KFB.if_not rfl ?_
    refine PySem.W.KFB.if_so rfl ?_
    refine wpAny_bind (wpAny_rule ?_)
    refine wpAny_bind (wpAny_attempt ?_)
    have i3 : Sub X k A1.in1.in1 := Sub.in1 i2
    refine PySem.W.len_K hF' I3.mod.kin J' ML.at_ ML.fn ?_
    apply wpAny_call
    refine codeAny_mono (FL.go (A := A1.in1.in1) gd1 i3.room (e0' I3) b2 (vs := [.ref a]) (.cons rfl .nil) sl) (fun res s2 z => ?_)
    match res, z with
    | .error e, z => exact z.elim
    | .ok (.ret u), z =>
      obtain ⟨v, H2, I4, rv, rfl, eH⟩ := I3.after z
      rw [eH] at I4
      obtain ⟨tk, rfl⟩ := rv
      refine ⟨⟨by omega, by omega⟩, ?_⟩
      refine wpAny_bind (m := asInt? (.int zs.length _)) (wpAny_pure ?_)
      refine PySem.W.KFB.if_not (by unfold Builtin.List.listTooLong; exact decide_eq_false (by rw [sizeLine_eq]; omega)) ?_
      refine wpAny_pure ?_
      have I5 := I4.tok (s2.toks + 1)
      refine wpAny_ite_split (fun _ => ?_) (fun _ => wpAny_pure ⟨plainId_quiet PySem.F.plain_extend_loop _, loopE I5⟩)
      refine wpAny_bind (wpAny_rule ?_)
      refine wpAny_bind ?_
      obtain ⟨z, its, k3, r3, hl3, e3⟩ := I5.lstM hq1
      cases r3
      show wpAny _ _ (updateSeq q (·.push .none) >>= fun _ => updateSeq q (·.pop)) _ _ _
      refine wpAny_bind (wpAny_updateSeq e3 rfl ?_)
      have I6 := I5.lset (f := (·.push Value.none)) (its' := [Value.none]) (ys := [.non]) (t' := s2.toks + 1) hq1 e3 (by simp) (.cons rfl .nil) (by rw [List.length_singleton, sizeLine_eq]; decide)
      obtain ⟨z4, its4, k4, r4, hl4, e4⟩ := I6.lstM upd_same
      obtain ⟨u4, rfl, ru4⟩ := r4.one
      refine wpAny_updateSeq e4 rfl ?_ (by show 1 ≤ sizeLine; rw [sizeLine_eq]; decide) (by show 0 ≤ sizeLine + 1; exact Nat.zero_le _)
      have I7 := I6.lset (f := (·.pop)) (its := [u4]) (its' := []) (ys := []) (t' := s2.toks + 1) upd_same e4 (by rfl) .nil (Nat.zero_le _)
      rw [upd_upd] at I7
      have hH : upd H1 q (.lst []) = H1 := by
        funext b
        by_cases hb : b = q
        · rw [hb, upd_same, hq1]
        · rw [upd_ne hb]
      rw [hH] at I7
      exact wpAny_pure ⟨plainId_quiet PySem.F.plain_extend_loop _, loopE I7⟩
    | .ok .next, z => exact False.elim z
    | .ok .brk, z => exact False.elim z
    | .ok .cont, z => exact False.elim z
  | .ok .next, hq' => exact False.elim hq'
  | .ok .brk, hq' => exact False.elim hq'
  | .ok .cont, hq' => exact False.elim hq'
end
end GL
/-! t.index(x), t a tuple of data of any depth -/
namespace GL
open PySem PySem.Spec PyProof.Rows L2
section
variable {X : Cx}
def rIndexT (K : PySem.W.Frag) : V → List V → Hp → VK → Prop := fun x xs H Q => ∃ (a : Addr) (y : V) (d : PyData) (ds : List PyData) (j : Nat) (z : PyData), x = V.ref a ∧ xs = [y] ∧ Dp K H (V.ref a) (.tuple ds) ∧ Dp K H y d ∧
  SeqAt.shaped (.tuple ds) = true ∧ SeqAt.shaped d = true ∧ ds[j]? = some z ∧ PyData.eqv z d = true ∧ (∀ (m : Nat) (z' : PyData), m < j → ds[m]? = some z' → PyData.eqv z' d = false) ∧ Q (.int (j : Nat)) H
theorem mt_indexT (hu : X.A.units + 65 < cLine) : MtR X "tuple.index" (rIndexT X.K) := by
  intro pins s σ H x xs v us Q I rx rxs h
  obtain ⟨a, y, d, ds, j, z, rfl, rfl, hl, hy, sl, sd, hz, hzj, hno, q⟩ := h
  cases rx
  cases rxs with
  | cons ry rt =>
    rename_i uy ut
    cases rt
    obtain ⟨bs, r1⟩ := Dp.reads I d y uy hy ry
    have hxs : PyData.canLayAll0 ds = true := SeqAt.canLay_of_shaped sl
    have hroom : X.A.units + 1 + min (PyData.depthAll ds) d.depth < cLine := room_in_shaped sd hu
    cases hl with
    | tup hs ha =>
      obtain ⟨its, rv, pl, hlen⟩ := I.tuple hs
      obtain ⟨⟨cls, dd, dt, sls⟩, ho, hc, n, hdt⟩ := pl
      simp only at hc hdt
      subst hc hdt
      obtain ⟨as, h4⟩ := Dp.readsAll I ds _ its ha rv
      have hn : its.length = ds.length := SeqAt.ReadsAll.length ds its as h4
      have hmap : its.map (SeqAt.readOf s.heap) = ds := SeqAt.readsAll_map ds its as hxs h4
      have hvl := rv.length
      have hsl := sizeLine_eq
      obtain ⟨hjd, _⟩ := List.getElem?_eq_some_iff.mp hz
      have hjl : j < its.length := by omega
      have hj : j < its.toArray.size := by simpa using hjl
      have at_ : ∀ (m : Nat) (hm : m < its.toArray.size) (z' : PyData), ds[m]? = some z' → SeqAt.readOf s.heap its.toArray[m] = z' := by
        intro m hm z' hz'
        have hml : m < its.length := by simpa using hm
        rw [← hmap, List.getElem?_map, List.getElem?_eq_getElem hml] at hz'
        have e1 : SeqAt.readOf s.heap its[m] = z' := Option.some.inj (show some (SeqAt.readOf s.heap its[m]) = some z' from hz')
        simpa using e1
      refine call_meets PySem.F.slot_tuple_index ⟨_, ho, rfl⟩ PySem.F.entry_tuple_index (PySem.F.args_tuple_index_2 _ _)
        (TI.tuple_indexAt a its.toArray n dd sls uy (fun u => PyData.eqv (SeqAt.readOf s.heap u) d) j hj ?_ ?_) ⟨ho, SeqAt.items_eqAt (vs := its.toArray) (show ReadsAll s.heap its.toArray.toList ds as from h4) r1 hxs (SeqAt.canLay_of_shaped sd) hroom, ?_⟩
      · show PyData.eqv (SeqAt.readOf s.heap its.toArray[j]) d = true
        rw [at_ j hj z hz]
        exact hzj
      · intro m hm hmj
        have hmd : m < ds.length := by omega
        have hz' : ds[m]? = some ds[m] := List.getElem?_eq_getElem hmd
        show PyData.eqv (SeqAt.readOf s.heap its.toArray[m]) d = false
        rw [at_ m hm _ hz']
        exact hno m _ hmj hz'
      · exact ⟨.int (j : Nat), H, I.tok _, ⟨_, rfl⟩, q⟩
end
end GL
/-! points as data; what the Grid's own methods promise -/
namespace GL
open PySem PySem.Spec PyProof.Rows L2
variable {K : PySem.W.Frag} {C : Addr} {U : Bool → Addr} {us : Bool → List Addr} {t : Bool}
/-! ### points as data -/
theorem ptD_lay (u : Int × Int) : (ptD u).canLay0 = true := by simp [ptD, PyData.canLay0, PyData.canLayAll0]
theorem ptD_depth (u : Int × Int) : (ptD u).depth = 1 := by simp [ptD, PyData.depth, PyData.depthAll]
theorem ptDs_lay : ∀ zs : List (Int × Int), PyData.canLayAll0 (zs.map ptD) = true
  | [] => by simp [PyData.canLayAll0]
  | z :: zs => by simp [PyData.canLayAll0, ptD_lay z, ptDs_lay zs]
theorem ptDs_depth : ∀ zs : List (Int × Int), PyData.depthAll (zs.map ptD) ≤ 1
  | [] => by simp [PyData.depthAll]
  | z :: zs => by
    have h1 := ptDs_depth zs
    have h2 := ptD_depth z
    simp only [List.map_cons, PyData.depthAll]
    omega
theorem ptDs_shaped (zs : List (Int × Int)) : SeqAt.shaped (.list (zs.map ptD)) = true := by
  have h1 := ptDs_depth zs
  have h2 : PyData.depth (.list (zs.map ptD)) ≤ 64 := by
    simp only [PyData.depth]
    omega
  show (PyData.canLay0 (.list (zs.map ptD)) && decide (PyData.depth (.list (zs.map ptD)) ≤ 64)) = true
  rw [Bool.and_eq_true]
  exact ⟨by simp only [PyData.canLay0]; exact ptDs_lay zs, decide_eq_true h2⟩
theorem ptDt_shaped (zs : List (Int × Int)) : SeqAt.shaped (.tuple (zs.map ptD)) = true := by
  have h1 := ptDs_depth zs
  have h2 : PyData.depth (.tuple (zs.map ptD)) ≤ 64 := by
    simp only [PyData.depth]
    omega
  show (PyData.canLay0 (.tuple (zs.map ptD)) && decide (PyData.depth (.tuple (zs.map ptD)) ≤ 64)) = true
  rw [Bool.and_eq_true]
  exact ⟨by simp only [PyData.canLay0]; exact ptDs_lay zs, decide_eq_true h2⟩
theorem ptDs_eqv : ∀ zs ys : List (Int × Int), PyData.eqvAll (zs.map ptD) (ys.map ptD) = decide (zs = ys)
  | [], [] => rfl
  | [], y :: ys => rfl
  | z :: zs, [] => rfl
  | z :: zs, y :: ys => by
    rw [List.map_cons, List.map_cons, PyData.eqvAll, ptD_eqv, ptDs_eqv zs ys, Bool.eq_iff_iff]
    simp
theorem PAt.dp {H : Hp} {a : Addr} {u : Int × Int} (h : PAt K H a u) : Dp K H (.ref a) (ptD u) := .tup h (.cons (.int _) (.cons (.int _) .nil))
/-- at the addresses as stand the points ps -/
def PAts (K : PySem.W.Frag) (H : Hp) (as : List Addr) (ps : List (Int × Int)) : Prop := as.length = ps.length ∧ ∀ (i : Nat) a p, as[i]? = some a → ps[i]? = some p → PAt K H a p
theorem PAts.dp {H : Hp} : ∀ {as : List Addr} {ps : List (Int × Int)}, PAts K H as ps → DpAll K H (as.map V.ref) (ps.map ptD)
  | [], [], _ => .nil
  | [], p :: ps, h => by cases h.1
  | a :: as, [], h => by cases h.1
  | a :: as, p :: ps, h => .cons (h.2 0 a p rfl rfl).dp (PAts.dp (as := as) (ps := ps) ⟨Nat.succ.inj h.1, fun i a p e1 e2 => h.2 (i + 1) a p e1 e2⟩)
theorem PAts.same {H H' : Hp} {as : List Addr} {ps : List (Int × Int)} (h : PAts K H as ps) (s : Same H H') : PAts K H' as ps := ⟨h.1, fun i a p e1 e2 => (h.2 i a p e1 e2).same s⟩
theorem PAts.got {q : Addr} {H H' : Hp} {as : List Addr} {ps : List (Int × Int)} (h : PAts K H as ps) (g : Got q H H') (d : Die H q) : PAts K H' as ps := ⟨h.1, fun i a p e1 e2 => (h.2 i a p e1 e2).got g d⟩
theorem PAts.snoc {H : Hp} {as : List Addr} {ps : List (Int × Int)} {a : Addr} {p : Int × Int} (h : PAts K H as ps) (e : PAt K H a p) : PAts K H (as ++ [a]) (ps ++ [p]) := by
  refine ⟨by rw [List.length_append, List.length_append, h.1]; rfl, fun i b q e1 e2 => ?_⟩
  rcases Nat.lt_trichotomy i as.length with l | l | l
  · rw [List.getElem?_append_left l] at e1
    rw [List.getElem?_append_left (by rw [← h.1]; exact l)] at e2
    exact h.2 i b q e1 e2
  · rw [List.getElem?_append_right (Nat.le_of_eq l.symm), l, Nat.sub_self] at e1
    rw [List.getElem?_append_right (by rw [← h.1]; exact Nat.le_of_eq l.symm), ← h.1, l, Nat.sub_self] at e2
    cases e1
    cases e2
    exact e
  · rw [List.getElem?_eq_none (by rw [List.length_append]; exact l)] at e1
    cases e1
theorem PAt.lst {H : Hp} {a D : Addr} {u : Int × Int} {xs : List V} {o : HO} (h : PAt K H a u) (e : H D = some (.lst xs)) : PAt K (upd H D o) a u := by
  rcases h with (z | ⟨ob, z⟩) | z
  · exact .inl (.inl (by rw [upd_ne (ne_of z e (by intro z; cases z))]; exact z))
  · exact .inl (.inr ⟨ob, by rw [upd_ne (ne_of z e (by intro z; cases z))]; exact z⟩)
  · exact .inr z
theorem PAts.lst {H : Hp} {as : List Addr} {D : Addr} {ps : List (Int × Int)} {xs : List V} {o : HO} (h : PAts K H as ps) (e : H D = some (.lst xs)) : PAts K (upd H D o) as ps := ⟨h.1, fun i a p e1 e2 => (h.2 i a p e1 e2).lst e⟩
theorem Uni.pts {w : World} {aG dU : Addr} (hU : Uni K w aG dU U us) (t : Bool) (H : Hp) : PAts K H (us t) (ux t) := ⟨by rw [hU.len, len_ux], fun i a p e1 e2 => hU.pt t i a p e1 e2 H⟩
theorem pts_at {H : Hp} {as : List Addr} (h : PAts K H as (ux t)) (n : Int) : ∃ a : Addr, PAt K H a (uni t n) ∧ atI (as.map V.ref) (n % (num t : Int)) = some (.ref a) := by
  have h1 := Int.emod_nonneg n (Int.ne_of_gt (num_pos (t := t)))
  have h2 := Int.emod_lt_of_pos n (num_pos (t := t))
  obtain ⟨j, hj⟩ : ∃ j : Nat, n % (num t : Int) = (j : Int) := ⟨(n % (num t : Int)).toNat, by omega⟩
  have e := uni_at (t := t) n
  rw [hj] at e ⊢
  have l : j < as.length := by rw [h.1, len_ux]; omega
  refine ⟨as[j], h.2 j _ _ (List.getElem?_eq_getElem l) e, atI_nat ?_⟩
  rw [List.getElem?_map, List.getElem?_eq_getElem l]
  rfl
/-- which unit a point is -/
def dirOf (t : Bool) (u : Int × Int) : Option Nat := (ux t).findIdx? fun p => decide (p = u)
def dirV (t : Bool) (u : Int × Int) : V := match dirOf t u with | some j => .int (j : Nat) | none => .non
def dirD (t : Bool) (u : Int × Int) : PyData := match dirOf t u with | some j => .int (j : Nat) | none => .none
theorem dir_in (t : Bool) (u : Int × Int) : (((ux t).map ptD).any fun z => PyData.eqv z (ptD u)) = (dirOf t u).isSome := by
  unfold dirOf
  rw [List.findIdx?_isSome, List.any_map]
  congr 1
  funext p
  exact ptD_eqv p u
theorem dir_at {t : Bool} {u : Int × Int} {j : Nat} (h : dirOf t u = some j) : j < num t ∧ ((ux t).map ptD)[j]? = some (ptD u) ∧ ∀ (m : Nat) (z : PyData), m < j → ((ux t).map ptD)[m]? = some z → PyData.eqv z (ptD u) = false := by
  unfold dirOf at h
  obtain ⟨hj, e, no⟩ := List.findIdx?_eq_some_iff_getElem.mp h
  refine ⟨by rw [← len_ux]; exact hj, ?_, fun m z hm hz => ?_⟩
  · rw [List.getElem?_map, List.getElem?_eq_getElem hj, of_decide_eq_true e]
    rfl
  · have hm' : m < (ux t).length := Nat.lt_trans hm hj
    rw [List.getElem?_map, List.getElem?_eq_getElem hm'] at hz
    cases hz
    rw [ptD_eqv]
    exact Bool.eq_false_iff.mpr (no m hm)
theorem dirD_ok (t : Bool) (u : Int × Int) : (dirD t u).showable = true ∧ (dirD t u).hasDict = false ∧ (dirD t u).depth ≤ 20 ∧ (dirD t u).shown.length ≤ sizeLine := by
  unfold dirD
  cases e : dirOf t u with
  | none => exact ⟨by decide +kernel, by decide +kernel, by decide +kernel, by decide +kernel⟩
  | some j =>
    have hj : j < 6 := Nat.lt_of_lt_of_le (dir_at e).1 (by cases t <;> decide)
    have all : ∀ j, j < 6 → (PyData.int (j : Nat)).showable = true ∧ (PyData.int (j : Nat)).hasDict = false ∧ (PyData.int (j : Nat)).depth ≤ 20 ∧ (PyData.int (j : Nat)).shown.length ≤ sizeLine := by decide +kernel
    exact all j hj
theorem dirD_dp {H : Hp} {t : Bool} {u : Int × Int} : Dp K H (dirV t u) (dirD t u) := by
  unfold dirV dirD
  cases dirOf t u with
  | none => exact .non
  | some j => exact .int _
theorem uniD_ok (t : Bool) (k : Int) : (ptD (uni t k)).showable = true ∧ (ptD (uni t k)).hasDict = false ∧ (ptD (uni t k)).depth ≤ 20 ∧ (ptD (uni t k)).shown.length ≤ sizeLine := by
  have all : ∀ p ∈ ux t, (ptD p).showable = true ∧ (ptD p).hasDict = false ∧ (ptD p).depth ≤ 20 ∧ (ptD p).shown.length ≤ sizeLine := by cases t <;> decide +kernel
  exact all _ (List.mem_of_getElem? (uni_at (t := t) k))
/-- what is told of a grid -/
def toldD (t : Bool) : PyData := .tuple [.str (nm t), .int ((num t : Int) / 2), .tuple ((ux t).map ptD), .int (num t : Int), .str (nm t)]
theorem toldD_ok (t : Bool) : (toldD t).showable = true ∧ (toldD t).hasDict = false ∧ (toldD t).depth ≤ 20 ∧ (toldD t).shown.length ≤ sizeLine := by cases t <;> exact ⟨by decide +kernel, by decide +kernel, by decide +kernel, by decide +kernel⟩
theorem toldD_dp {H : Hp} {a b : Addr} {as : List Addr} (h : H a = some (.tup [.str (nm t), .int ((num t : Int) / 2), .ref b, .int (num t : Int), .str (nm t)])) (hb : SqT K H b (as.map V.ref)) (p : PAts K H as (ux t)) : Dp K H (.ref a) (toldD t) :=
  .tup (SqT.of h) (.cons (.str _) (.cons (.int _) (.cons (.tup hb p.dp) (.cons (.int _) (.cons (.str _) .nil)))))
/-! ### what of the class Grid stands in the text, for == and isinstance -/
structure GIs (K : PySem.W.Frag) (C : Addr) : Prop where
  eq : EqC K C
  is : (((PySem.W.clsIn K C).isSome && PySem.W.typeIn K (.ref C) == some (.type "type")) = true)
  ha : PySem.W.findIn K (.ref C) "__class__" = some (some (.builtin "object.__class__"))
  hn : PySem.W.specialIn K (.builtin "object.__class__") "__get__" = some (some (.builtin "getset_descriptor.__get__"))
  htk : PySem.W.takesIn K (.builtin "object.__class__") = some true
  hm : PySem.W.mroIn K C (.type "object") = some true
theorem gis_mk (h1 : PySem.W.isClsIn K C = true) (h2 : PySem.W.typeIn K (.ref C) = some (.type "type")) (ne : PySem.W.findIn K (.ref C) "__ne__" = some (some (.builtin "object.__ne__"))) (ob : PySem.W.subIn K (.ref C) (.type "object") = some true)
    (ha : PySem.W.findIn K (.ref C) "__class__" = some (some (.builtin "object.__class__"))) (hn : PySem.W.specialIn K (.builtin "object.__class__") "__get__" = some (some (.builtin "getset_descriptor.__get__"))) (htk : PySem.W.takesIn K (.builtin "object.__class__") = some true)
    (hm : PySem.W.mroIn K C (.type "object") = some true) : GIs K C :=
  ⟨⟨ne, ob⟩, by
    have h1' : (PySem.W.clsIn K C).isSome = true := h1
    rw [h1', h2]
    rfl, ha, hn, htk, hm⟩
theorem GIs.ty {H : Hp} {a dx : Addr} {fs : List (Str × V)} (i : GIs K C) (c : Cls K C) (e : H a = some (.ins C dx fs)) : TyX K H (.ref a) (.ref C) := .base (.ins e c i.ha i.hn i.htk i.hm)
theorem kit_self : PySem.W.kitOne K (.ref C) (.ref C) = some true := by
  unfold PySem.W.kitOne
  rw [if_pos (beq_self_eq_true _)]
theorem GIs.kit (i : GIs K C) (k : Kd) : PySem.W.kitOne K (.type k.nm) (.ref C) = some false := by
  unfold PySem.W.kitOne
  rw [if_neg (by intro z; cases beq_iff_eq.mp z)]
  show (if _ then _ else _) = _
  rw [if_pos i.is]
  cases k <;> rfl
theorem nf_kd (k : Kd) : PySem.W.notFirst K C (.type k.nm) = true := by cases k <;> rfl
theorem nf_self : PySem.W.notFirst K C (.ref C) = true := by
  unfold PySem.W.notFirst
  rw [beq_self_eq_true]
  rfl
theorem Of.got {p : Addr} {H H' : Hp} {x : V} {k : Kd} (h : Of K H x k) (g : Got p H H') (d : Die H p) : Of K H' x k := by
  obtain ⟨_, _, _, _, e0⟩ := d
  obtain ⟨_, _, _, _, e1⟩ := g.die
  have kp : ∀ {a : Addr} {o : HO}, H a = some o → (∀ l, o ≠ .lst l) → H' a = some o := fun {a o} e n => g.keep _ _ e (ne_of e e0 (by intro z; exact n _ z))
  unfold Of at h ⊢
  generalize ht : Value.type k.nm = t at h ⊢
  cases h with
  | base b =>
    cases b with
    | non => exact .base .non
    | bl x => exact .base (.bl x)
    | int i => exact .base (.int i)
    | str y => exact .base (.str y)
    | flt y => exact .base (.flt y)
    | @lst a xs e =>
      by_cases ep : a = p
      · subst ep; exact .base (.lst e1)
      · exact .base (.lst (g.keep _ _ e ep))
    | frz e => exact .base (.frz (kp e (fun l z => nomatch z)))
    | tup e => exact .base (.tup (kp e (fun l z => nomatch z)))
    | dK e => exact .base (.dK (kp e (fun l z => nomatch z)))
    | dT e => exact .base (.dT (kp e (fun l z => nomatch z)))
    | ins e a b c d e2 => exact .base (.ins (kp e (fun l z => nomatch z)) a b c d e2)
  | byt b => exact .byt b
  | set e => exact .set (kp e (fun l z => nomatch z))
  | kList e c => exact .kList e c
  | kTuple e c => exact .kTuple e c
  | kDict e c => exact .kDict e c
  | fTuple e => exact .fTuple (kp e (fun l z => nomatch z))
  | fDict e => exact .fDict (kp e (fun l z => nomatch z))
/-- the tuples of units have no dict -/
def UTy (K : PySem.W.Frag) (U : Bool → Addr) : Prop := ∀ t, ∃ o, K.lookup (U t) = some o ∧ o.cls = .type "tuple" ∧ o.dict = none
/-! ### promises -/
/-- y as the other side of a grid t: r tells whether it is a grid of that name -/
def GOpd (K : PySem.W.Frag) (C : Addr) (U : Bool → Addr) (H : Hp) (t : Bool) (y : V) (r : Bool) : Prop := (∃ b t', y = .ref b ∧ GridAt C U H b t' ∧ r = (t == t')) ∨ ∃ k : Kd, Of K H y k ∧ r = false
theorem GOpd.ty {H : Hp} {t r : Bool} {y : V} (i : GIs K C) (c : Cls K C) (h : GOpd K C U H t y r) : ∃ T, TyX K H y T ∧ PySem.W.notFirst K C T = true := by
  rcases h with ⟨b, t', rfl, ⟨dx, e⟩, _⟩ | ⟨k, o, _⟩
  · exact ⟨_, i.ty c e, nf_self⟩
  · exact ⟨_, o, nf_kd k⟩
def spGEq (K : PySem.W.Frag) (C : Addr) (U : Bool → Addr) : Sp := fun vs H Q _ => ∃ g t y r, vs = [.ref g, y] ∧ GridAt C U H g t ∧ GOpd K C U H t y r ∧ Q (.bl r) H
def spGIter (C : Addr) (U : Bool → Addr) : Sp := fun vs H Q _ => ∃ g t, vs = [.ref g] ∧ GridAt C U H g t ∧ ∀ it, H it = none → Q (.ref it) (upd H it (ItT (U t) it 0))
def spGStr (C : Addr) (U : Bool → Addr) : Sp := fun vs H Q _ => ∃ g t, vs = [.ref g] ∧ GridAt C U H g t ∧ Q (.str (nm t)) H
def spGDir (K : PySem.W.Frag) (C : Addr) (U : Bool → Addr) : Sp := fun vs H Q _ => ∃ g t a u, vs = [.ref g, .ref a] ∧ GridAt C U H g t ∧ PAt K H a u ∧ ptOk u ∧ Q (dirV t u) H
end GL
/-! operators of own classes: both sides of one class, of two classes, - x, bool(x), x[i] -/
namespace GL
open PySem PySem.Spec PyProof.Rows L2
section
variable {prog : Program} {w : World} {A : Around} {E : Value → Shared → Prop} {s : Shared} {K : PySem.W.Frag} {x C D L f fD : Addr} {h₀ : Heap} {m : Str → Option Value} {ox : Obj} {od : Option Obj} {b : Value}
theorem inst_keep {h h' : Heap} (I : PySem.W.InstAt h x ox C od) (k : ∀ b o, h.get? b = some o → h'.get? b = some o) : PySem.W.InstAt h' x ox C od := by
  refine ⟨k _ _ I.at_, I.cls, I.no, ?_⟩
  have z := I.dict
  revert z
  cases ox.dict <;> cases od <;> intro z <;> first | exact z | exact k _ _ z
/-- what of two classes the text has, where D is no subclass of C -/
structure BinC (K : PySem.W.Frag) (C : Addr) (nm : String) : Prop where
  first : PySem.W.selfFirst K C = true
  own : ∃ f : Addr, PySem.W.findIn K (.ref C) (PySem.dunder nm) = some (some (.ref f))
  refl : PySem.W.findIn K (.ref C) (dunderR nm) = some none
open PySem.W PySem.Calls Builtin in
theorem bin_mixed {op : Operator} {Q : Value → Shared → Prop} (F : Fr h₀ L s.heap m) (X₀ : K.In h₀) (I : InstAt s.heap x ox C od) (hb : Looks (model prog w) s.heap (typeOf b) (.ref D)) (hCD : C ≠ D)
    (cC : BinC K C op.info.2) (cD : BinC K D op.info.2) (hs : findIn K (.ref C) (PySem.dunder op.info.2) = some (some (.ref f))) (hf : isFn K (.ref f) = true) (hsub : subIn K (.ref D) (.ref C) = some false)
    (h : wpAny (model prog w) A (call (.ref f) [.ref x, b]) (PySem.W.CmpBack Q) E s) : wpAny (model prog w) A (binaryOp op (.ref x) b) Q E s := by
  have X := X₀.keeps F.keep
  obtain ⟨cd, rest, hcd, hm⟩ := ksp_first cC.first
  obtain ⟨cd2, rest2, hcd2, hm2⟩ := ksp_first cD.first
  obtain ⟨gD, hsD⟩ := cD.own
  have hrC := cC.refl
  have hrD := cD.refl
  rcases hi : op.info with ⟨sym, nm'⟩
  rw [hi] at hs hsD hrC hrD
  dsimp only at hs hsD hrC hrD
  have one := ksp_try X I hs hf h
  obtain ⟨hh, g, d, tt, os⟩ := s
  have M1 : Looks (model prog w) hh (typeOf (.ref x)) (.ref C) := I.type
  have M2 : Looks (model prog w) hh (typeOf b) (.ref D) := hb
  have M3 : Looks (model prog w) hh (fillsNumberSlot (.ref C) nm') true := fills_K X hcd hm hs
  have M4 : Looks (model prog w) hh (fillsNumberSlot (.ref D) nm') true := fills_K X hcd2 hm2 hsD
  have M5 : Looks (model prog w) hh (isSubtype (.ref D) (.ref C)) false := looks_subIn X hsub
  have M6 : Looks (model prog w) hh (numberSlotInPython (.ref C) nm') true := ksp_inPy X hs hrC (.inl rfl)
  have M7 : Looks (model prog w) hh (numberSlotInPython (.ref D) nm') true := ksp_inPy X hsD hrD (.inl rfl)
  have hne : (Value.ref C == Value.ref D) = false := Bool.eq_false_iff.mpr fun q => by cases beq_iff_eq.mp q; exact hCD rfl
  simp only [binaryOp, hi]
  refine wpAny_holding (wpAny_bind ?_)
  unfold binaryOp1
  refine wpAny_bind (M1.at (wpAny_bind (M2.at (wpAny_bind (M3.at ?_)))))
  simp only [hne, Bool.false_eq_true, if_false]
  ksp_lk
  refine wpAny_mono one (fun r s' hr' => ?_) fun _ _ e => e
  obtain ⟨v, rfl, hq⟩ := hr'
  ksp_lk
  exact hq

open PySem.W PySem.Calls Builtin in
theorem raise_attr {M : Model} {α : Type} {msg : Str} {Q : α → Shared → Prop} (hh : A.handled = none) (hm : msg.length ≤ sizeLine)
    (h : ∀ h' tk e, (∀ b o, s.heap.get? b = some o → h'.get? b = some o) → (∃ o, h'.get? e = some o ∧ o.cls = .type "AttributeError") → E (.ref e) { s with heap := h', toks := tk }) :
    wpAny M A (raiseErrorStr "AttributeError" msg : Sem α) Q E s := by
  obtain ⟨hp, g, d, tk, os⟩ := s
  unfold raiseErrorStr
  refine wpAny_bind (wpAny_mkStr ?_ hm)
  refine wpAny_bind ?_
  unfold newExc newTuple
  refine wpAny_bind (wpAny_newObj_type ?_ (by size_fits))
  refine wpAny_bind (m := firstArgMember _ _) (wpAny_of_eq (a := Value.none) (by simp only [firstArgMember, attrError_no_first]; rfl) ?_)
  rw [ownMembersOf_AttributeError]
  refine wpAny_newObj_type ?_ (by size_fits)
  unfold raiseNew
  refine wpAny_bind (wpAny_handled ?_)
  rw [hh]
  first
    | refine wpAny_throw ?_
    | refine wpAny_bind (wpAny_pure (wpAny_throw ?_))
  dsimp only
  exact h _ _ _ (fun b o e => Heap.get?_push_of_some _ (Heap.get?_push_of_some _ e)) ⟨_, Heap.get?_push_size _ rfl, rfl⟩
open PySem.W PySem.Calls Builtin in
/-- a class has no attribute of a name: an error is made and forgotten -/
theorem cls_miss {tk0 : Tok} {name nm : Str} {cd : ClassData} {Q : Option Value → Shared → Prop} (X : K.In s.heap) (ho : nsIn K cStatics "thirdparty.any" = some none) (hty : typeIn K (.ref D) = some (.type "type")) (h1 : findIn K (.type "type") name = some none)
    (h2 : findIn K (.ref D) name = some none) (hga : findIn K (.type "type") "__getattribute__" = some (some (.builtin "type.__getattribute__"))) (hgg : findIn K (.type "type") "__getattr__" = some none) (hcd : clsIn K D = some cd) (hcn : cd.name = nm)
    (hs8 : nm.cps.foldl (fun k c => k + (Str.utf8Of c).length) 0 ≤ 100) (hfit : (((s!"type object '{nm.toString}' has no attribute '" : String) : Str) ++ name ++ ("'" : Str)).length ≤ sizeLine) (hh : A.handled = none)
    (h : ∀ h' tk, (∀ b o, s.heap.get? b = some o → h'.get? b = some o) → Q none { s with heap := h', toks := tk }) : wpAny (model prog w) A (getAttrBy? (.ref D) (.str name tk0)) Q E s := by
  have LO : Looks (model prog w) s.heap (opaqueClassAbove (.ref D)) none := looks_opaque X ho
  have LT : Looks (model prog w) s.heap (typeOf (.ref D)) (.type "type") := looks_typeIn X hty
  have LG := looks_findIn (M := model prog w) X hga
  have L1 := looks_findIn (M := model prog w) X h1
  have L2 := looks_findIn (M := model prog w) X h2
  have L3 := looks_findIn (M := model prog w) X hgg
  have LC := looks_clsIn (M := model prog w) X hcd
  obtain ⟨hp, g, d, tk, os⟩ := s
  dsimp only at X LO LT LG L1 L2 L3 LC h
  unfold getAttrBy? getAttrBy
  refine wpAny_bind (wpAny_attempt (wpAny_holding (wpAny_bind (LT.at (wpAny_bind (LG.at ?_))))))
  dsimp only
  rw [show (onTheHeap (.type "type") && Value.builtin "type.__getattribute__" == Value.builtin "object.__getattribute__") = false from rfl, if_neg (by decide)]
  unfold getAttrByItsOwn
  refine wpAny_bind (m := hookBefore (.type "type")) (wpAny_pure ?_)
  refine wpAny_bind (wpAny_attempt (wpAny_holding ?_))
  unfold callGetattribute
  rw [show (false && onTheHeap (Value.builtin "type.__getattribute__")) = false from rfl, if_neg (by decide)]
  unfold boundAndCalled
  rw [KF.slot_tga.bind]
  refine wpAny_bind (wpAny_pure ?_)
  show wpAny _ _ (call (.builtin "type.__getattribute__") [.ref D, .str name tk0]) _ _ _
  refine wpAny_call ?_
  refine codeAny_call_builtin KF.slot_tga.plain KF.entry_tga ?_
  refine @check_slot (model prog w) _ _ ⟨hp, g, d, tk, os⟩ "type.__getattribute__" "type" "__getattribute__" (.ref D) [.str name tk0] [] _ (by decide +kernel) (by decide +kernel) (LT.andThen (Looks.of_pure (by rw [isSubtype_type]; kernel_rfl))) (KF.args_tga (.ref D) (.str name tk0)) ?_
  unfold Builtin.«type.__getattribute__»
  refine wpAny_bind (wpAny_pure (wpAny_bind (LO.at (wpAny_bind (LT.at (wpAny_bind (L1.at ?_)))))))
  refine wpAny_bind (wpAny_pure ?_)
  refine wpAny_bind (L2.at ?_)
  dsimp only
  refine wpAny_bind (wpAny_rule ?_)
  unfold typeNameCut
  refine wpAny_bind (wpAny_bind (LC.at ?_))
  dsimp only
  rw [hcn, if_pos hs8]
  refine wpAny_pure ?_
  refine raise_attr hh hfit fun h' tk' e keep ⟨o, ho', hc⟩ => ?_
  have L3' : Looks (model prog w) h' (typeLookup (.type "type") "__getattr__") none := L3.keeps keep
  have isE : ∀ t'', (⟨h', g, d, t'', os⟩ : Shared).TypeIs (.ref e) "AttributeError" := fun _ => ⟨o, ho', hc⟩
  unfold getattributeRaised
  refine wpAny_bind (wpAny_isInstance (isE _) sub_AttributeError ?_)
  rw [if_pos rfl]
  unfold hookBehind
  refine wpAny_bind (L3'.at ?_)
  show wpAny _ _ (throw (.ref e)) _ _ _
  refine wpAny_throw ?_
  refine wpAny_bind (wpAny_isInstance (isE _) sub_AttributeError ?_)
  rw [if_pos rfl]
  exact wpAny_pure (h _ _ keep)
open PySem.W PySem.Calls Builtin in
/-- b is of a class derived from that of x -/
theorem bin_sub {op : Operator} {nm : Str} {cd : ClassData} {Q : Value → Shared → Prop} (F : Fr h₀ L s.heap m) (X₀ : K.In h₀) (I : InstAt s.heap x ox C od) (hb : Looks (model prog w) s.heap (typeOf b) (.ref D)) (hCD : C ≠ D)
    (cC : BinC K C op.info.2) (cD : BinC K D op.info.2) (hs : findIn K (.ref C) (PySem.dunder op.info.2) = some (some (.ref f))) (hf : isFn K (.ref f) = true) (hsub : subIn K (.ref D) (.ref C) = some true)
    (ho : nsIn K cStatics "thirdparty.any" = some none) (hty : typeIn K (.ref D) = some (.type "type")) (h1 : findIn K (.type "type") (dunderR op.info.2) = some none)
    (hga : findIn K (.type "type") "__getattribute__" = some (some (.builtin "type.__getattribute__"))) (hgg : findIn K (.type "type") "__getattr__" = some none) (hcd : clsIn K D = some cd) (hcn : cd.name = nm)
    (hs8 : nm.cps.foldl (fun k c => k + (Str.utf8Of c).length) 0 ≤ 100) (hfit : (((s!"type object '{nm.toString}' has no attribute '" : String) : Str) ++ dunderR op.info.2 ++ ("'" : Str)).length ≤ sizeLine) (hfit2 : (dunderR op.info.2).length ≤ sizeLine) (hh : A.handled = none)
    (h : ∀ h' tk, (∀ b o, s.heap.get? b = some o → h'.get? b = some o) → wpAny (model prog w) A (call (.ref f) [.ref x, b]) (PySem.W.CmpBack Q) E { s with heap := h', toks := tk }) : wpAny (model prog w) A (binaryOp op (.ref x) b) Q E s := by
  have X := X₀.keeps F.keep
  obtain ⟨cd1, rest, hcd1, hm⟩ := ksp_first cC.first
  obtain ⟨cd2, rest2, hcd2, hm2⟩ := ksp_first cD.first
  obtain ⟨gD, hsD⟩ := cD.own
  have hrC := cC.refl
  have hrD := cD.refl
  rcases hi : op.info with ⟨sym, nm'⟩
  rw [hi] at hs hsD hrC hrD h1 hfit hfit2
  dsimp only at hs hsD hrC hrD h1 hfit hfit2
  obtain ⟨hp, g, d, tt, os⟩ := s
  have M1 : Looks (model prog w) hp (typeOf (.ref x)) (.ref C) := I.type
  have M2 : Looks (model prog w) hp (typeOf b) (.ref D) := hb
  have M3 : Looks (model prog w) hp (fillsNumberSlot (.ref C) nm') true := fills_K X hcd1 hm hs
  have M4 : Looks (model prog w) hp (fillsNumberSlot (.ref D) nm') true := fills_K X hcd2 hm2 hsD
  have M5 : Looks (model prog w) hp (isSubtype (.ref D) (.ref C)) true := looks_subIn X hsub
  have M6 : Looks (model prog w) hp (numberSlotInPython (.ref C) nm') true := ksp_inPy X hs hrC (.inl rfl)
  have M7 : Looks (model prog w) hp (numberSlotInPython (.ref D) nm') true := ksp_inPy X hsD hrD (.inl rfl)
  have hne : (Value.ref C == Value.ref D) = false := Bool.eq_false_iff.mpr fun q => by cases beq_iff_eq.mp q; exact hCD rfl
  simp only [binaryOp, hi]
  refine wpAny_holding (wpAny_bind ?_)
  unfold binaryOp1
  refine wpAny_bind (M1.at (wpAny_bind (M2.at (wpAny_bind (M3.at ?_)))))
  simp only [hne, Bool.false_eq_true, if_false]
  refine wpAny_bind (M4.at ?_)
  simp only [Bool.and_self, if_true]
  refine wpAny_bind (M5.at ?_)
  simp only [if_true]
  unfold reflectedDiffers
  refine wpAny_bind (wpAny_bind (M6.at ?_))
  simp only [Bool.not_true, Bool.false_eq_true, if_false]
  refine wpAny_bind (M7.at ?_)
  simp only [Bool.not_true, Bool.false_eq_true, if_false]
  refine wpAny_bind (wpAny_mkStr ?_ hfit2)
  refine wpAny_bind (cls_miss (s := ⟨hp, g, d, _, os⟩) X ho hty h1 hrD hga hgg hcd hcn hs8 hfit hh fun h' tk keep => ?_)
  have N6 : Looks (model prog w) h' (numberSlotInPython (.ref C) nm') true := M6.keeps keep
  have N7 : Looks (model prog w) h' (numberSlotInPython (.ref D) nm') true := M7.keeps keep
  have one := ksp_try (s := ⟨h', g, d, tk, os⟩) (X.keeps keep) (inst_keep I keep) hs hf (h h' tk keep)
  refine wpAny_pure ?_
  simp only [Bool.false_eq_true, if_false]
  refine wpAny_bind ?_
  simp only [Bool.not_false, Bool.and_self, if_true]
  refine N6.at ?_
  simp only [if_true]
  refine wpAny_bind (N7.at ?_)
  simp only [Bool.not_true, Bool.false_eq_true, if_false]
  refine wpAny_bind (wpAny_mono one (fun r s' hr' => ?_) fun _ _ e => e)
  obtain ⟨v, rfl, hq⟩ := hr'
  exact wpAny_pure (wpAny_pure hq)
end

section
variable {prog : Program} {w : World} {A : Around} {E : Value → Shared → Prop} {s : Shared} {x : Addr}
theorem plain_bool_new : plainId "bool.__new__" = true := by decide +kernel
theorem owner_bool_new : ("bool.__new__".splitOn ".__new__").headD "" = "bool" := by simp +decide [String.splitOn, String.splitOnAux]
theorem code_bool_new {Q₁ : Value → Shared → Prop} (h : wpAny (model prog w) A.in1 (truthy (.ref x)) (fun b s' => Q₁ (.bool b) s') E s) :
    codeAny (model prog w) A (.call (.builtin "bool.__new__") ⟨[.type "bool", .ref x], []⟩) (wants Q₁ E) s := by
  refine codeAny_of_tree ?_
  show wpAny _ A.in1 (do checkBuiltinCall "bool.__new__" ⟨[.type "bool", .ref x], []⟩; again (.builtin "bool.__new__" ⟨[.type "bool", .ref x], []⟩)) _ _ s
  refine wpAny_bind (wpAny_of_eq (F.newCall_bool_1 _) (wpAny_pure ⟨plainId_quiet plain_bool_new _, codeAny_builtin F.entry_bool_new ?_⟩))
  rw [Around.under_plainId plain_bool_new _]
  have hsub := F.conv_sub_bool
  have hown := owner_bool_new
  obtain ⟨hp, g, d, tk, os⟩ := s
  unfold Builtin.«bool.__new__»
  refine wpAny_bind (m := isType _) (wpAny_pure ?_)
  simp only [Bool.not_true, Bool.false_eq_true, if_false]
  refine wpAny_bind ?_
  rw [hsub]
  refine wpAny_pure ?_
  simp only [Bool.not_true, Bool.false_eq_true, if_false]
  refine wpAny_bind (m := someArgs _ _ _ _) (wpAny_of_eq (a := [Value.ref x]) (by first | rfl | kernel_rfl!) ?_)
  exact wpAny_bind (wpAny_mono h (fun b s' z => wpAny_pure z) fun _ _ z => z)
theorem call_bool_inst {Q : Value → Shared → Prop} (h : wpAny (model prog w) A.in1.in1 (truthy (.ref x)) (fun b s' => Q (.bool b) s') E s) : wpAny (model prog w) A (call (.type "bool") [.ref x]) Q E s := by
  refine callType_codes (Q₁ := fun obj s' => ∃ b, obj = .bool b ∧ Q (.bool b) s') F.called_bool (F.typeCall_bool_1 _) F.entry_object_init (code_bool_new (wpAny_mono h (fun b s' z => ⟨b, rfl, z⟩) fun _ _ z => z)) fun obj s₁ ⟨b, eb, q⟩ => ?_
  subst eb
  have hT : s₁.TypeIs (.bool b) "bool" := rfl
  exact ⟨hT, F.args_object_init_2 _ _, object_init_meets F.called_bool.init.lookup F.called_bool.made F.newNe_bool prog w A.in1 _ s₁ (⟨hT, rfl, q⟩)⟩
end

/-- what the text has of two classes, for an operator with an instance of each -/
structure SubC (K : PySem.W.Frag) (D : Addr) (r : Str) (nm : Str) (cd : ClassData) : Prop where
  ho : PySem.W.nsIn K cStatics "thirdparty.any" = some none
  hty : PySem.W.typeIn K (.ref D) = some (.type "type")
  h1 : PySem.W.findIn K (.type "type") r = some none
  hga : PySem.W.findIn K (.type "type") "__getattribute__" = some (some (.builtin "type.__getattribute__"))
  hgg : PySem.W.findIn K (.type "type") "__getattr__" = some none
  hcd : PySem.W.clsIn K D = some cd
  hcn : cd.name = nm
  hs8 : nm.cps.foldl (fun k c => k + (Str.utf8Of c).length) 0 ≤ 100
  hfit : (((s!"type object '{nm.toString}' has no attribute '" : String) : Str) ++ r ++ ("'" : Str)).length ≤ sizeLine
  hfit2 : r.length ≤ sizeLine
inductive BinK (K : PySem.W.Frag) (C D : Addr) (op : Operator) : Prop where
  | same (e : C = D) (c : PySem.W.selfFirst K C = true)
  | mixed (n : C ≠ D) (c : BinC K C op.info.2) (d : BinC K D op.info.2) (s : PySem.W.subIn K (.ref D) (.ref C) = some false)
  | sub (n : C ≠ D) (c : BinC K C op.info.2) (d : BinC K D op.info.2) (s : PySem.W.subIn K (.ref D) (.ref C) = some true) (nm : Str) (cd : ClassData) (z : SubC K D (dunderR op.info.2) nm cd)
theorem rel_back {v : V} {u : Value} {Q : Value → Shared → Prop} {s : Shared} (r : RelV v u) (q : Q u s) : PySem.W.CmpBack Q u s := by
  cases v with
  | non => cases (show u = Value.none from r); exact q
  | bl b => cases (show u = Value.bool b from r); exact q
  | int i => obtain ⟨t, rfl⟩ := (show ∃ t, u = Value.int i t from r); exact q
  | str x => obtain ⟨t, rfl⟩ := (show ∃ t, u = Value.str x t from r); exact q
  | byt b => obtain ⟨t, rfl⟩ := (show ∃ t, u = Value.bytes b t from r); exact q
  | flt b => obtain ⟨t, rfl⟩ := (show ∃ t, u = Value.float b t from r); exact q
  | ref a => cases (show u = Value.ref a from r); exact q
  | ty n => cases (show u = Value.type n from r); exact q
section
variable {X : Cx} {CX : CXT} {k : Nat} {IsV : Addr → Prop} {sp : Sp} {E : XK} {m : Str} {ta tb : TE} {t : TA} {o e a b : Expr} {es : List Expr} {pos apos : Pos}
/-- x op y, both of classes of a family -/
def rBinV (IsV : Addr → Prop) (sp : Sp) (E : XK) : R2 := fun x y H Q => ∃ a b C D dx dy fs gs, x = .ref a ∧ y = .ref b ∧ IsV C ∧ IsV D ∧ H a = some (.ins C dx fs) ∧ H b = some (.ins D dy gs) ∧ sp [.ref a, .ref b] H Q E
theorem op_binV {op : Operator} (hn : PySem.dunder op.info.2 = m) (h : ∀ C, IsV C → HasM X.prog X.w X.K X.mg X.base CX C m k ["self", "other"] sp) (bk : ∀ C D, IsV C → IsV D → BinK X.K C D op) (g : Gd X.A) (hr : Room k X.A) (hx : Passes CX X E) :
    OpR X (binaryOp op) (rBinV IsV sp E) := by
  intro pins s σ H x y v u Q I rx ry hq
  obtain ⟨a, b, C, D, dx, dy, fs, gs, rfl, rfl, vC, vD, ha, hb, q⟩ := hq
  cases (show v = Value.ref a from rx)
  cases (show u = Value.ref b from ry)
  obtain ⟨f, fd, F, M, bi⟩ := (h C vC).ex
  obtain ⟨_, O1, _⟩ := ins_get I.hok ha
  obtain ⟨_, O2, _⟩ := ins_get I.hok hb
  obtain ⟨od, J, _⟩ := O1.look
  obtain ⟨od2, J2, _⟩ := O2.look
  obtain ⟨m', fr⟩ := I.fr
  have tb : PySem.W.Looks (model X.prog X.w) s.heap (typeOf (.ref b)) (.ref D) := J2.type
  have at_ : PySem.W.findIn X.K (.ref C) (PySem.dunder op.info.2) = some (some (.ref f)) := by rw [hn]; exact M.at_
  have run : ∀ h' tk, (∀ b o, s.heap.get? b = some o → h'.get? b = some o) → wpAny (model X.prog X.w) X.A (call (.ref f) [.ref a, .ref b]) (PySem.W.CmpBack (EP X pins σ Q)) X.xe { s with heap := h', toks := tk } := by
    intro h' tk keep
    have I2 : Inv X pins σ H { s with heap := h', toks := tk } := I.kept keep
    have b1 := bi { s with heap := h', toks := tk } [.ref a, .ref b] I2.kIn rfl
    rw [List.append_nil] at b1
    apply wpAny_call
    refine codeAny_mono (F.go g hr I2.env0 b1 (vs := [.ref a, .ref b]) (.cons rfl (.cons rfl .nil)) q) (fun res s' z => ?_)
    match res, z with
    | .error _, z => exact hx pins σ H _ _ s' I2 z
    | .ok (.ret _), z =>
      obtain ⟨v, H', I', rv, q2⟩ := I2.after z
      exact rel_back rv ⟨v, H', I', rv, q2⟩
  cases bk C D vC vD with
  | same e c =>
    subst e
    exact PySem.W.binop_K fr I.mod.kin J tb c at_ M.fn (run s.heap s.toks (fun _ _ e => e))
  | mixed n c d sb => exact bin_mixed fr I.mod.kin J tb n c d at_ M.fn sb (run s.heap s.toks (fun _ _ e => e))
  | sub n c d sb nm cd z => exact bin_sub fr I.mod.kin J tb n c d at_ M.fn sb z.ho z.hty z.h1 z.hga z.hgg z.hcd z.hcn z.hs8 z.hfit z.hfit2 hr.hd run
/-- o.m(args), o of a class of the family -/
def tMethV (IsV : Addr → Prop) (m : Str) (sp : Sp) (E : XK) (ta : TE) (t : TA) : TE := fun σ H Q => ta σ H fun x H1 => ∃ a C dx fs, x = .ref a ∧ IsV C ∧ H1 a = some (.ins C dx fs) ∧ fs.lookup m = none ∧ t σ H1 fun vs H2 => sp (.ref a :: vs) H2 Q E
theorem pe_methV {pl : Sem Bool} (he : PE X o ta) (c : ∀ C, IsV C → Cls X.K C) (h : ∀ C, IsV C → ∃ ps, HasM X.prog X.w X.K X.mg X.base CX C m k ps sp) (g : Gd X.A) (hr : Room k X.A) (hx : Passes CX X E) (ha : PA X (e :: es) t)
    (hst : starEach (e :: es) X.env = (false, eval e X.env) :: starEach es X.env := by rfl) (hpl : (backTo pos (starEach es X.env)).any (·.1) = false := by rfl)
    (ht : eval (.Call (.Attribute o m apos) (e :: es) [] pos) X.env = ((eval o X.env).bind fun ov => (standAt apos.atName).bind fun _ => (holding [ov] (getMethod ov m pl)).bind fun fm =>
      callWith pos fm.1 fm.2 (backTo pos (starEach (e :: es) X.env)) (backToKw pos (keywordEach [] X.env))) := by rfl) :
    PE X (.Call (.Attribute o m apos) (e :: es) [] pos) (tMethV IsV m sp E ta t) := by
  constructor
  intro pins s σ H Q I q
  refine PySem.W.methodCall_KW (pl := pl) (thn (he.run pins s σ H _ I q) (fun u s1 z => ?_)) ht
  obtain ⟨x, H1, I1, rx, a, C, dx, fs, ex, vC, ea, l, q1⟩ := z
  subst ex
  obtain ⟨ps, hC⟩ := h C vC
  obtain ⟨f, fd, F, M, b⟩ := hC.ex
  cases (show u = Value.ref a from rx)
  apply getmeth_ok I1 ea (c C vC) M l
  refine PySem.W.callWith_K (first := [.ref a]) (h₀ := X.base) I.ok.mod.kin M.kp (thn (ha.run pos pins s1 σ H1 _ I1 q1) (fun us s2 z => ?_)) hst hpl
  obtain ⟨vs, H2, I2, r, q2⟩ := z
  exact ⟨I2.kIn, goes (us := .ref a :: us) (vs := .ref a :: vs) F g hr b hx I2 (.cons rfl r) q2⟩
theorem pe_methV0 {pl : Sem Bool} (he : PE X o ta) (c : ∀ C, IsV C → Cls X.K C) (h : ∀ C, IsV C → ∃ ps, HasM X.prog X.w X.K X.mg X.base CX C m k ps sp) (g : Gd X.A) (hr : Room k X.A) (hx : Passes CX X E)
    (ht : eval (.Call (.Attribute o m apos) [] [] pos) X.env = ((eval o X.env).bind fun ov => (standAt apos.atName).bind fun _ => (holding [ov] (getMethod ov m pl)).bind fun fm =>
      callWith pos fm.1 fm.2 (backTo pos (starEach [] X.env)) (backToKw pos (keywordEach [] X.env))) := by rfl) :
    PE X (.Call (.Attribute o m apos) [] [] pos) (tMethV IsV m sp E ta tNil) := by
  constructor
  intro pins s σ H Q I q
  refine PySem.W.methodCall_KW (pl := pl) (thn (he.run pins s σ H _ I q) (fun u s1 z => ?_)) ht
  obtain ⟨x, H1, I1, rx, a, C, dx, fs, ex, vC, ea, l, q1⟩ := z
  subst ex
  obtain ⟨ps, hC⟩ := h C vC
  obtain ⟨f, fd, F, M, b⟩ := hC.ex
  cases (show u = Value.ref a from rx)
  apply getmeth_ok I1 ea (c C vC) M l
  exact PySem.W.callWith_K0 (first := [.ref a]) I1.kIn M.kp (goes (us := [.ref a]) (vs := [.ref a]) F g hr b hx I1 (.cons rfl .nil) q1)
/-- x == y, x != y: x of a class of the family, y of no class below it -/
def rEqV (K : PySem.W.Frag) (IsV : Addr → Prop) (sp : Sp) (E : XK) (neg : Bool) : R2 := fun x y H Q => ∃ a C dx fs t, x = .ref a ∧ IsV C ∧ H a = some (.ins C dx fs) ∧ TyX K H y t ∧ PySem.W.notFirst K C t = true ∧
  sp [.ref a, y] H (fun v H' => ∃ r, v = .bl r ∧ Q (.bl (neg != r)) H') E
theorem op_eqV (h : ∀ C, IsV C → HasM X.prog X.w X.K X.mg X.base CX C "__eq__" k ["self", "other"] sp) (g : Gd X.A) (hr : Room k X.A) (hx : Passes CX X E) : OpR X (compareOp .Eq) (rEqV X.K IsV sp E false) := by
  intro pins s σ H x y v u Q I rx ry hq
  obtain ⟨a, C, dx, fs, t, rfl, vC, ha, ty, nf, q⟩ := hq
  exact op_eqA (h C vC) g hr hx pins s σ H _ y v u Q I rx ry ⟨a, dx, fs, t, rfl, ha, ty, nf, q⟩
theorem op_neV (h : ∀ C, IsV C → HasM X.prog X.w X.K X.mg X.base CX C "__eq__" k ["self", "other"] sp) (e : ∀ C, IsV C → EqC X.K C) (g : Gd X.A) (hr : Room (k + 1) X.A) (hx : Passes CX X E) : OpR X (compareOp .NotEq) (rEqV X.K IsV sp E true) := by
  intro pins s σ H x y v u Q I rx ry hq
  obtain ⟨a, C, dx, fs, t, rfl, vC, ha, ty, nf, q⟩ := hq
  exact op_neA (h C vC) (e C vC) g hr hx pins s σ H _ y v u Q I rx ry ⟨a, dx, fs, t, rfl, ha, ty, nf, q⟩
/-- an instance of the family, alone -/
def rOneV (IsV : Addr → Prop) (sp : Sp) (E : XK) : List V → Hp → VK → Prop := fun xs H Q => ∃ a C dx fs, xs = [.ref a] ∧ IsV C ∧ H a = some (.ins C dx fs) ∧ sp [.ref a] H Q E
theorem call_strV (h : ∀ C, IsV C → HasM X.prog X.w X.K X.mg X.base CX C "__str__" k ["self"] sp) (g : Gd X.A) (hr : Room (k + 2) X.A) (hx : Passes CX X E) :
    CallR X (.type "str") (fun xs H Q => rOneV IsV sp E xs H fun v H' => ∃ y, v = .str y ∧ Q (.str y) H') := by
  intro pins s σ H xs us Q I r q
  obtain ⟨a, C, dx, fs, rfl, vC, ea, q1⟩ := q
  exact call_strM (h C vC) g hr hx pins s σ H _ us Q I r ⟨a, dx, fs, rfl, ea, q1⟩
theorem call_boolV (h : ∀ C, IsV C → HasM X.prog X.w X.K X.mg X.base CX C "__bool__" k ["self"] sp) (g : Gd X.A) (hr : Room (k + 2) X.A) (hx : Passes CX X E) :
    CallR X (.type "bool") (fun xs H Q => rOneV IsV sp E xs H fun v H' => ∃ y, v = .bl y ∧ Q (.bl y) H') := by
  intro pins s σ H xs us Q I r q
  obtain ⟨a, C, dx, fs, rfl, vC, ea, q1⟩ := q
  obtain ⟨f, fd, F, M, b⟩ := (h C vC).ex
  obtain ⟨u, rfl, ru⟩ := vals1 r
  cases (show u = Value.ref a from ru)
  obtain ⟨mA, O, _⟩ := ins_get I.hok ea
  obtain ⟨od, J, _⟩ := O.look
  have b1 := b s [.ref a] I.kIn rfl
  rw [List.append_nil] at b1
  obtain ⟨m', fr⟩ := I.fr
  refine call_bool_inst ?_
  refine PySem.W.truthy_K fr I.mod.kin J M.at_ M.fn ?_
  apply wpAny_call
  refine codeAny_mono (F.go (A := X.A.in1.in1) g hr.in1.in1 I.env0.in1.in1 b1 (vs := [.ref a]) (.cons rfl .nil) q1) (fun res s' z => ?_)
  match res, z with
  | .error _, z => exact hx pins σ H s _ s' I z
  | .ok (.ret _), z =>
    obtain ⟨v, H', I', rv, y, rfl, q2⟩ := I.after z
    cases (show _ = Value.bool y from rv)
    exact ⟨.bl y, H', I', rfl, q2⟩
theorem un_negV (h : ∀ C, IsV C → HasM X.prog X.w X.K X.mg X.base CX C "__neg__" k ["self"] sp) (g : Gd X.A) (hr : Room k X.A) (hx : Passes CX X E) : UnR X (unaryOp .USub) (fun x H Q => rOneV IsV sp E [x] H Q) := by
  intro pins s σ H x v Q I rx q
  obtain ⟨a, C, dx, fs, ex, vC, ea, q1⟩ := q
  cases ex
  cases (show v = Value.ref a from rx)
  obtain ⟨f, fd, F, M, b⟩ := (h C vC).ex
  obtain ⟨mA, O, _⟩ := ins_get I.hok ea
  obtain ⟨od, J, _⟩ := O.look
  have b1 := b s [.ref a] I.kIn rfl
  rw [List.append_nil] at b1
  obtain ⟨m', fr⟩ := I.fr
  refine PySem.W.ksp_neg fr I.mod.kin J M.at_ M.fn ?_
  apply wpAny_call
  refine codeAny_mono (F.go g hr I.env0 b1 (vs := [.ref a]) (.cons rfl .nil) q1) (fun res s' z => ?_)
  match res, z with
  | .error _, z => exact hx pins σ H s _ s' I z
  | .ok (.ret _), z => exact I.after z
/-- x[i], x of a class of the family with its own __getitem__ -/
theorem pe_ixV (h : ∀ C, IsV C → HasM X.prog X.w X.K X.mg X.base CX C "__getitem__" k ["self", "index"] sp) (g : Gd X.A) (hr : Room (k + 1) X.A) (hx : Passes CX X E) (ha : PE X a ta) (hb : PE X b tb)
    (hfn : ∀ C f, IsV C → PySem.W.findIn X.K (.ref C) "__getitem__" = some (some (.ref f)) → PySem.W.fnIn X.K f = true)
    (hs : ∀ x i, subscripted b true (.ref x) i = runValue (.builtin "lifetime.subscript" ⟨[.ref x, i], []⟩) := by exact fun _ _ => rfl) :
    PE X (.Subscript a b pos) (tOp (fun x y H Q => ∃ p C dx fs, x = .ref p ∧ IsV C ∧ H p = some (.ins C dx fs) ∧ sp [.ref p, y] H Q E) ta tb) := by
  refine ⟨fun pins s σ H Q I q => ?_⟩
  refine Subscript_ (binT ha hb I q fun v u s2 x y H2 I2 rx ry q => ?_)
  obtain ⟨p, C, dx, fs, ex, vC, ea, q1⟩ := q
  subst ex
  cases (show v = Value.ref p from rx)
  obtain ⟨f, fd, F, M, b⟩ := (h C vC).ex
  obtain ⟨mA, O, _⟩ := ins_get I2.hok ea
  obtain ⟨od, J, _⟩ := O.look
  have b1 := b s2 [.ref p, u] I2.kIn rfl
  rw [List.append_nil] at b1
  obtain ⟨m', fr⟩ := I2.fr
  refine PySem.W.sub_K fr I2.mod.kin J M.at_ (hfn C f vC M.at_) M.fn ?_ (hs _ _)
  apply wpAny_call
  refine codeAny_mono (F.go (A := X.A.in1) g hr.in1 I2.env0.in1 b1 (vs := [.ref p, y]) (.cons rfl (.cons ry .nil)) q1) (fun res s' z => ?_)
  match res, z with
  | .error _, z => exact hx pins σ H2 s2 _ s' I2 z
  | .ok (.ret _), z => exact I2.after z
end
end GL
/-! repr of data of any form without dicts, its ints of up to 4300 digits -/
namespace GL
open PySem PySem.Spec PyProof.Rows L2
mutual
def okD : PyData → Bool
  | .int i => decide (i.natAbs < 10 ^ 4300)
  | .list xs => okAll xs
  | .tuple xs => okAll xs
  | .dict _ => false
  | _ => true
def okAll : List PyData → Bool
  | [] => true
  | d :: r => okD d && okAll r
end
section
variable {prog : Program} {w : World} {h₀ : Heap}
mutual
theorem rep_of (nd : h₀.NoDigits) : ∀ {v : Value} {d : PyData} {as : List Addr}, Reads h₀ v d as → okD d = true → d.shown.length ≤ sizeLine → ∃ bs, ReadAtMost h₀ d.depth bs ∧ ReprK prog w bs h₀ d.depth v d.shown
  | _, _, _, .none, _, _ => ⟨[], (fun _ z => nomatch z), by simp only [PyData.shown]; exact ReprK.of_is ReprIs.none _ _ _⟩
  | _, _, _, .bool b, _, _ => ⟨[], (fun _ z => nomatch z), by simp only [PyData.shown]; exact ReprK.of_is (ReprIs.bool b) _ _ _⟩
  | _, _, _, .int i t, ok, _ => ⟨[], (fun _ z => nomatch z), by simp only [PyData.shown]; exact big_leaf nd t (show i.natAbs < 10 ^ 4300 from of_decide_eq_true (by simpa only [okD] using ok)) [] _⟩
  | _, _, _, .str x t, _, sz => ⟨[], (fun _ z => nomatch z), by simp only [PyData.shown]; exact ReprK.of_is (ReprIs.str x t (by simpa only [PyData.shown] using sz)) _ _ _⟩
  | _, _, _, .list (a := a) (vs := vs) (xs := xs) p1 p2 p3 p4, ok, sz => by
    have sz2 : (listText (PyData.shownAll xs)).length ≤ sizeLine := by simpa only [PyData.shown] using sz
    obtain ⟨bs, few, all⟩ := rep_all nd p4 (by simpa only [okD] using ok) (fun t m => Nat.le_trans (listText_mem_le m) sz2)
    have rd := Reads.list p1 p2 p3 p4
    have out : a ∉ bs := not_mem_of_deeper rd (by simp only [PyData.depth]; omega) few
    refine ⟨a :: bs, ReadAtMost.cons rd (by simp only [PyData.depth]; omega) few, ?_⟩
    simp only [PyData.depth, PyData.shown]
    obtain ⟨l⟩ := vs
    cases l with
    | nil =>
      have p5 : ReadsAll h₀ [] xs _ := p4
      cases p5
      simp only [PyData.shownAll, listText_nil]
      exact .listEmpty p1 p2 p3
    | cons x l => exact .list p1 p2 p3 out (by simpa using all.length_eq) (fun i y e => all.item i y (by simpa using e))
  | _, _, _, .tuple (a := a) (xs := xs) p1 p2 p3 p4, ok, sz => by
    have sz2 : (tupleText (PyData.shownAll xs)).length ≤ sizeLine := by simpa only [PyData.shown] using sz
    obtain ⟨bs, few, all⟩ := rep_all nd p4 (by simpa only [okD] using ok) (fun t m => Nat.le_trans (tupleText_mem_le m) sz2)
    have rd := Reads.tuple p1 p2 p3 p4
    have out : a ∉ bs := not_mem_of_deeper rd (by simp only [PyData.depth]; omega) few
    refine ⟨a :: bs, ReadAtMost.cons rd (by simp only [PyData.depth]; omega) few, ?_⟩
    simp only [PyData.depth, PyData.shown]
    exact .tuple p1 p2 p3 out all
  | _, _, _, .dict .., ok, _ => by simp only [okD] at ok; cases ok
theorem rep_all (nd : h₀.NoDigits) : ∀ {vs : List Value} {ds : List PyData} {as : List Addr}, ReadsAll h₀ vs ds as → okAll ds = true → (∀ t ∈ PyData.shownAll ds, t.length ≤ sizeLine) → ∃ bs, ReadAtMost h₀ (PyData.depthAll ds) bs ∧ ReprAllK prog w bs h₀ (PyData.depthAll ds) vs (PyData.shownAll ds)
  | _, _, _, .nil, _, _ => ⟨[], (fun _ z => nomatch z), by simp only [PyData.shownAll]; exact .nil⟩
  | _, _, _, .cons (d := d) (ds := ds) r rs, ok, sz => by
    have ok2 : okD d = true ∧ okAll ds = true := by simpa [okAll] using ok
    obtain ⟨b1, f1, k1⟩ := rep_of nd r ok2.1 (sz _ (by simp only [PyData.shownAll]; exact List.mem_cons_self ..))
    obtain ⟨b2, f2, k2⟩ := rep_all nd rs ok2.2 (fun t m => sz t (by simp only [PyData.shownAll]; exact List.mem_cons_of_mem _ m))
    refine ⟨b1 ++ b2, (f1.mono (by simp only [PyData.depthAll]; omega)).append (f2.mono (by simp only [PyData.depthAll]; omega)), ?_⟩
    simp only [PyData.depthAll, PyData.shownAll]
    exact .cons ((k1.more fun b m => List.mem_append_left _ m).level_le (by omega)) (k2.more_le (fun b m => List.mem_append_right _ m) (by omega))
end
theorem repr_any {A : Around} {E : Value → Shared → Prop} {s : Shared} {Q : Value → Shared → Prop} {a : Addr} {d : PyData} {as : List Addr} (nd : s.heap.NoDigits) (r : Reads s.heap (.ref a) d as) (ok : okD d = true) (sz : d.shown.length ≤ sizeLine)
    (hg : A.guards = some []) (hu : A.units + (d.depth + 3) < cLine) (hQ : ∀ h' u tk, (∀ b o, s.heap.get? b = some o → h'.get? b = some o) → Q (.str d.shown u) { s with heap := h', toks := tk }) : wpAny (model prog w) A (call (.builtin "repr") [.ref a]) Q E s := by
  cases r with
  | list p1 p2 p3 p4 =>
    rename_i o vs n xs bs₀
    have sz2 : (listText (PyData.shownAll xs)).length ≤ sizeLine := by simpa only [PyData.shown] using sz
    obtain ⟨cs, few, all⟩ := rep_all (prog := prog) (w := w) nd p4 (by simpa only [okD] using ok) (fun t m => Nat.le_trans (listText_mem_le m) sz2)
    have rd := Reads.list p1 p2 p3 p4
    have out : a ∉ cs := not_mem_of_deeper rd (by simp only [PyData.depth]; omega) few
    simp only [PyData.depth] at hu
    simp only [PyData.shown] at hQ
    obtain ⟨l⟩ := vs
    cases l with
    | nil =>
      have p5 : ReadsAll s.heap [] xs _ := p4
      cases p5
      exact repr_of_reads' (.list p1 p2 p3 .nil) (by decide +kernel) (fun z => absurd z (by decide +kernel)) hg (by show A.units + 2 < cLine; omega) (fun _ _ e => e) (fun h' u tk hk => by simpa only [PyData.shown, PyData.shownAll] using hQ h' u tk hk) (by simpa only [PyData.shown] using sz2)
    | cons x l =>
      refine call_repr_slot (by omega) (T := "list") (idr := "list.__repr__") ⟨o, p1, p2⟩ F.slot_list_repr.toG ?_
      exact call_list_reprK p1 p2 p3 out (by simpa using all.length_eq) (fun i y e => all.item i y (by simpa using e)) hg (fun b _ => Clear.nil b) (by show A.units + 1 + (PyData.depthAll xs + 1) < cLine; omega) (fun _ _ e => e) (fun h' u tk hk => ⟨_, _, rfl, hQ h' u tk hk⟩) sz2
  | @tuple _ o vs n xs _ p1 p2 p3 p4 =>
    have sz2 : (tupleText (PyData.shownAll xs)).length ≤ sizeLine := by simpa only [PyData.shown] using sz
    obtain ⟨cs, few, all⟩ := rep_all (prog := prog) (w := w) nd p4 (by simpa only [okD] using ok) (fun t m => Nat.le_trans (tupleText_mem_le m) sz2)
    have rd := Reads.tuple p1 p2 p3 p4
    have out : a ∉ cs := not_mem_of_deeper rd (by simp only [PyData.depth]; omega) few
    simp only [PyData.depth] at hu
    simp only [PyData.shown] at hQ
    refine call_repr_slot (by omega) (T := "tuple") (idr := "tuple.__repr__") ⟨o, p1, p2⟩ F.slot_tuple_repr ?_
    exact call_tuple_reprK p1 p2 p3 out all hg (fun b _ => Clear.nil b) (by show A.units + 1 + (PyData.depthAll xs + 1) < cLine; omega) (fun _ _ e => e) (fun h' u tk hk => ⟨_, _, rfl, hQ h' u tk hk⟩) sz2
  | dict p1 p2 p3 p4 p5 => simp only [okD] at ok; cases ok
end
def rReprB (K : PySem.W.Frag) : List V → Hp → VK → Prop := fun xs H Q => ∃ a d, xs = [.ref a] ∧ Dp K H (.ref a) d ∧ okD d = true ∧ d.depth ≤ 20 ∧ d.shown.length ≤ sizeLine ∧ Q (.str d.shown) H
theorem call_reprB {X : Cx} (dig : PySem.W.nsIn X.K cStatics "sys.int_max_str_digits" = some none) (hg : Gd X.A) (hu : X.A.units + 64 < cLine) : CallR X (.builtin "repr") (rReprB X.K) := by
  intro pins s σ H xs us Q I r h
  obtain ⟨a, d, rfl, hd, ok, dp, sz, q⟩ := h
  obtain ⟨u, rfl, r1⟩ := vals1 r
  cases (show u = Value.ref a from r1)
  obtain ⟨as, hr⟩ := Dp.reads I d (.ref a) (.ref a) hd rfl
  exact repr_any (big_base dig I) hr ok sz hg (by omega) (fun h' u tk hk => ⟨.str _, H, I.kept hk, ⟨_, rfl⟩, q⟩)
end GL
/-! vectors -/
namespace GL
open PySem PySem.Spec PyProof.Rows L2
/-! ### a class that is called, its __init__ calling defs -/
structure HasG (P : Program) (w : World) (K : PySem.W.Frag) (mg : Str → Option Value) (base : Heap) (x : Str) (C : Addr) (k : Nat) (ps : List Str) (sp : Sp) : Prop where
  ex : ∃ f fd, FnG P w K mg base CX0 k f fd ps sp ∧ mg x = some (.ref C) ∧ Mk K C f ∧ Binds K fd ps []
section
variable {X : Cx} {CX : CXT} {k : Nat} {f C : Addr} {fd : FuncData} {ps : List Str} {sp : Sp} {E : XK} {x : Str} {p pos : Pos} {e : Expr} {es : List Expr} {t : TA}
theorem run_makeG {pins : List (Addr × Obj)} {σ : L2.St} {H : Hp} {s : Shared} {Q : VK} {us : List Value} {vs : List V} (M : Mk X.K C f) (F : FnG X.prog X.w X.K X.mg X.base CX k f fd ps sp) (g : Gd X.A) (hr : Room (k + 1) X.A) (hb : Binds X.K fd ps [])
    (hx : Passes CX X E) (I : Inv X pins σ H s) (r : Vals vs us) (h : ∀ a dx, H a = none → H dx = none → dx ≠ a → sp (.ref a :: (vs ++ [])) (upd (upd H dx (.own a)) a (.ins C dx [])) (fun v H2 => v = .non ∧ Q (.ref a) H2) E) :
    wpAny (model X.prog X.w) X.A (call (.ref C) us) (EP X pins σ Q) X.xe s := by
  have q := h (s.heap.objs.size + 1) s.heap.objs.size (I.hok.fresh (Nat.le_succ _)) (I.hok.fresh (Nat.le_refl _)) (Nat.ne_of_lt (Nat.lt_succ_self _))
  rw [List.append_nil] at q
  have J := Inv.made (C := C) I
  have rr : Vals (V.ref (s.heap.objs.size + 1) :: vs) (Value.ref (s.heap.objs.size + 1) :: us) := .cons rfl r
  have nl : (Value.ref (s.heap.objs.size + 1) :: us ++ []).length = ps.length := by
    rw [List.append_nil, ← rr.length]
    exact F.len _ _ _ _ q
  have b1 := hb _ (Value.ref (s.heap.objs.size + 1) :: us) J.kIn nl
  rw [List.append_nil] at b1
  refine wpAny_call (make_map (f := f) I.kIn M.makes M.init (beq_iff_eq.mp M.fn) (codeAny_mono (F.go (by exact g) (hr.make C us []) (J.env0.make C us []) b1 rr q) fun res s' z => ?_))
  match res, z with
  | .error e, z => exact hx pins σ _ _ e s' J z
  | .ok (.ret u), z =>
    obtain ⟨v, H', I3, rv, ev, q3⟩ := J.after z
    subst ev
    exact ⟨rv, V.ref (s.heap.objs.size + 1), H', I3, rfl, q3⟩
theorem pe_makeG (h : HasG X.prog X.w X.K X.mg X.base x C k ps sp) (g : Gd X.A) (hr : Room (k + 1) X.A) (hx : Passes CX0 X E) (ha : PA X (e :: es) t) (hg : Gl X x := by exact rfl)
    (hdb : (x == ("__debug__" : Str)) = false := by decide) (he : starEach (e :: es) X.env = (false, eval e X.env) :: starEach es X.env := by rfl) (hpl : (backTo pos (starEach es X.env)).any (·.1) = false := by rfl) :
    PE X (.Call (.Name x p) (e :: es) [] pos) (tMake C sp [] E t) := by
  obtain ⟨f, fd, F, m, M, b⟩ := h.ex
  refine ⟨fun pins s σ H Q I q => ?_⟩
  refine wpAny_Call_Name_kw (ld_glob I hg m ?_ hdb)
  refine PySem.W.callWith_K (h₀ := X.base) I.ok.mod.kin M.kp (thn (ha.run pos pins s σ H _ I q) fun us s1 ⟨vs, H1, I1, r, q1⟩ => ?_) he hpl
  exact ⟨I1.kIn, run_makeG M F g hr b hx I1 r q1⟩
end
theorem Dc.hasG {P : Program} {w : World} {K : PySem.W.Frag} {mg : Str → Option Value} {base : Heap} {C : Addr} {x qual : Str} {st : Stmt} {N ps : List Str} {k : Nat} {sp : Sp} (D : Dc K C qual st) (m : mg x = some (.ref C)) (S : FnScope N ps (defScope st)) (len : ∀ vs H Q E, sp vs H Q E → vs.length = ps.length)
    (bi : ∀ (kV doc pm : Value) (an : Option Addr) (cdv ct : Value) (us : List Value), us.length = ps.length → bindArgs (PySem.W.fnOf "__init__" qual (defArgs st) (defBody st) (defScope st) .none kV doc pm an cdv ct) ⟨us, []⟩ = pure (ps.zip us))
    (body : ∀ (f : Addr) (cdv : Value) (A : Around) (outer : List Env) (s : Shared) (H : Hp) (vs : List V) (Q : VK) (E : XK), Gd (A.deeper (envOfC qual (defScope st) s.heap.objs.size f cdv)) → Room k (A.deeper (envOfC qual (defScope st) s.heap.objs.size f cdv)) → sp vs H Q E →
      ∃ t, PSs (cxOf CX0 P w K mg base N qual (defScope st) f cdv A outer s H E).nox (defBody st) t ∧ t { nx := fun _ H' => Q .non H', rt := Q } (start N vs) H) : HasG P w K mg base x C (k + 1) ps sp := by
  obtain ⟨f, fd, F, M⟩ := D.ex
  exact ⟨f, fd, F.g S len (body f), m, M, F.binds bi⟩
variable {K : PySem.W.Frag} {C CV CM D D' : Addr} {U : Bool → Addr} {us : Bool → List Addr} {t : Bool} {u z : Int × Int}
def IsV (CV CM : Addr) (C : Addr) : Prop := C = CV ∨ C = CM
def vF (g a : Addr) (n : Int) : List (Str × V) := [("grid", .ref g), ("point", .ref a), ("norm", .int n)]
/-- at v a vector of the class D, of the grid t, with the point u -/
def VecAt (K : PySem.W.Frag) (C : Addr) (U : Bool → Addr) (D : Addr) (H : Hp) (v : Addr) (t : Bool) (u : Int × Int) : Prop := ∃ dx g a, H v = some (.ins D dx (vF g a (nrm t u))) ∧ GridAt C U H g t ∧ PAt K H a u
theorem vF_grid {g a : Addr} {n : Int} : (vF g a n).lookup ("grid" : Str) = some (.ref g) := rfl
theorem vF_point {g a : Addr} {n : Int} : (vF g a n).lookup ("point" : Str) = some (.ref a) := rfl
theorem vF_norm {g a : Addr} {n : Int} : (vF g a n).lookup ("norm" : Str) = some (.int n) := rfl
theorem VecAt.same {H H' : Hp} {v : Addr} (h : VecAt K C U D H v t u) (s : Same H H') : VecAt K C U D H' v t u := let ⟨dx, g, a, e, hg, hp⟩ := h; ⟨dx, g, a, s _ _ e, hg.same s, hp.same s⟩
theorem VecAt.got {p : Addr} {H H' : Hp} {v : Addr} (h : VecAt K C U D H v t u) (s : Got p H H') (d : Die H p) : VecAt K C U D H' v t u := by
  obtain ⟨dx, g, a, e, hg, hp⟩ := h
  have gg := hg.got s d
  have pp := hp.got s d
  obtain ⟨_, _, _, _, e0⟩ := d
  exact ⟨dx, g, a, s.keep _ _ e (ne_of e e0 (by intro z; cases z)), gg, pp⟩
def psub (u v : Int × Int) : Int × Int := (u.1 - v.1, u.2 - v.2)
def pw (t : Bool) (u : Int × Int) : Nat → Int × Int
  | 0 => (1, 0)
  | n + 1 => mul t (pw t u n) u
theorem mul_one' : mul t (1, 0) u = u := by unfold mul sl; cases t <;> simp
theorem one_mul' : mul t u (1, 0) = u := by rw [mul_comm', mul_one']
theorem pw_add (m n : Nat) : mul t (pw t u m) (pw t u n) = pw t u (m + n) := by
  induction n with
  | zero => exact one_mul'
  | succ n ih => rw [pw, ← mul_assoc', ih]; rfl
structure VCls (K : PySem.W.Frag) (D : Addr) : Prop where
  cls : Cls K D
  grid : NoAttr K D "grid"
  point : NoAttr K D "point"
  norm : NoAttr K D "norm"
theorem log_of {x : Int} (h : x.natAbs < 10 ^ 400) : x.natAbs.log2 < 1920 := Nat.lt_of_lt_of_le (PySem.Flt.log2_lt_of (k := 1329) (by decide) (Nat.lt_of_lt_of_le h (by decide +kernel))) (by decide)
theorem sign_neg {n : Int} (h : n < 0) : (toString n : String) = "-" ++ toString (-n) := by
  obtain ⟨m, rfl⟩ : ∃ m : Nat, n = Int.negSucc m := ⟨(-n).toNat - 1, by omega⟩
  rfl
theorem ofS_append (a b : String) : Str.ofString (a ++ b) = Str.ofString a ++ Str.ofString b := by
  rw [Str.ofString_eq_toList, Str.ofString_eq_toList, Str.ofString_eq_toList]
  refine Str.ext' ?_
  rw [Str.cps_append]
  simp
theorem sign_of (n : Int) : (if n < 0 then Str.ofString "-" else Str.ofString "") ++ Str.ofString (toString (if n < 0 then -n else n)) = Str.ofString (toString n) := by
  by_cases h : n < 0
  · rw [if_pos h, if_pos h, sign_neg h, ofS_append]
  · rw [if_neg h, if_neg h]
    exact Str.empty_append _
/-! ### promises -/
def spVInit (K : PySem.W.Frag) (C : Addr) (U : Bool → Addr) (D : Addr) (ok : Int × Int → Prop) : Sp := fun vs H Q _ => ∃ p dx g a t u, vs = [.ref p, .ref g, .ref a] ∧ H p = some (.ins D dx []) ∧ GridAt C U H g t ∧ PAt K H a u ∧ ok u ∧
  ∀ H', (∀ b, b ≠ p → H' b = H b) → H' p = some (.ins D dx (vF g a (nrm t u))) → Q .non H'
/-- what hands out a new vector, at u' -/
def VNew (K : PySem.W.Frag) (C : Addr) (U : Bool → Addr) (D : Addr) (H : Hp) (t : Bool) (u : Int × Int) (Q : VK) : Prop := ∀ r H', H r = none → Same H H' → VecAt K C U D H' r t u → Q (.ref r) H'
def spVBin (K : PySem.W.Frag) (C : Addr) (U : Bool → Addr) (CV CM : Addr) (f : Bool → Int × Int → Int × Int → Int × Int) : Sp := fun vs H Q _ => ∃ v w D D' t u z, vs = [.ref v, .ref w] ∧ IsV CV CM D ∧ IsV CV CM D' ∧ VecAt K C U D H v t u ∧ VecAt K C U D' H w t z ∧ Sm u ∧ Sm z ∧ Sm (f t u z) ∧ VNew K C U CM H t (f t u z) Q
def spVDiv (K : PySem.W.Frag) (C : Addr) (U : Bool → Addr) (CV CM : Addr) : Sp := fun vs H Q _ => ∃ v w D D' t u z q, vs = [.ref v, .ref w] ∧ IsV CV CM D ∧ IsV CV CM D' ∧ VecAt K C U D H v t u ∧ VecAt K C U D' H w t z ∧ Sm u ∧ Sm z ∧ Sm q ∧ Sm (flip t z) ∧ Sm (low t u z) ∧ (nrm t z).natAbs < 2 ^ 2000 ∧ 0 < nrm t z ∧ mul t q z = u ∧ VNew K C U CM H t q Q
def spVUn (K : PySem.W.Frag) (C : Addr) (U : Bool → Addr) (CV CM : Addr) (f : Bool → Int × Int → Int × Int) : Sp := fun vs H Q _ => ∃ v D t u, vs = [.ref v] ∧ IsV CV CM D ∧ VecAt K C U D H v t u ∧ Sm u ∧ Sm (f t u) ∧ VNew K C U CM H t (f t u) Q
def spVTurn (K : PySem.W.Frag) (C : Addr) (U : Bool → Addr) (CV CM : Addr) : Sp := fun vs H Q _ => ∃ v D t u k, vs = [.ref v, .int k] ∧ IsV CV CM D ∧ VecAt K C U D H v t u ∧ isIntV (.int k) = true ∧ Sm u ∧ Sm (mul t u (uni t k)) ∧ VNew K C U CM H t (mul t u (uni t k)) Q
def spVPow (K : PySem.W.Frag) (C : Addr) (U : Bool → Addr) (CV CM : Addr) : Sp := fun vs H Q _ => ∃ v D t u, ∃ n : Nat, vs = [.ref v, .int n] ∧ IsV CV CM D ∧ VecAt K C U D H v t u ∧ n ≤ 1000 ∧ Sm u ∧ (∀ i, i ≤ n → Sm (pw t u i)) ∧ VNew K C U CM H t (pw t u n) Q
def spVItem (K : PySem.W.Frag) (C : Addr) (U : Bool → Addr) (CV CM : Addr) : Sp := fun vs H Q _ => ∃ v D t u i, vs = [.ref v, .int i] ∧ IsV CV CM D ∧ VecAt K C U D H v t u ∧ (i = 0 ∨ i = 1) ∧ Q (.int (if i = 0 then u.1 else u.2)) H
def spVBool (K : PySem.W.Frag) (C : Addr) (U : Bool → Addr) (CV CM : Addr) : Sp := fun vs H Q _ => ∃ v D t u, vs = [.ref v] ∧ IsV CV CM D ∧ VecAt K C U D H v t u ∧ ∀ H', Same H H' → Q (.bl (!decide (u = (0, 0)))) H'
def vText (u : Int × Int) : Str := (toString u.1 : Str) ++ "," ++ (toString u.2 : Str)
def spVStr (K : PySem.W.Frag) (C : Addr) (U : Bool → Addr) (CV CM : Addr) : Sp := fun vs H Q _ => ∃ v D t u, vs = [.ref v] ∧ IsV CV CM D ∧ VecAt K C U D H v t u ∧ ptOk u ∧ ∀ H', Same H H' → Q (.str (vText u)) H'
/-- y as the other side of a vector of the grid t at u: r tells whether it is equal -/
def VOpd (K : PySem.W.Frag) (C : Addr) (U : Bool → Addr) (CV CM : Addr) (H : Hp) (t : Bool) (u : Int × Int) (y : V) (r : Bool) : Prop :=
  (∃ w D t' z, y = .ref w ∧ IsV CV CM D ∧ VecAt K C U D H w t' z ∧ r = (t == t' && decide (u = z))) ∨ (∃ k : Kd, Of K H y k ∧ r = false) ∨ (∃ g t', y = .ref g ∧ GridAt C U H g t' ∧ r = false)
def spVEq (K : PySem.W.Frag) (C : Addr) (U : Bool → Addr) (CV CM : Addr) : Sp := fun vs H Q _ => ∃ v D t u y r, vs = [.ref v, y] ∧ IsV CV CM D ∧ VecAt K C U D H v t u ∧ VOpd K C U CV CM H t u y r ∧ Q (.bl r) H
def spPartner (K : PySem.W.Frag) (C : Addr) (U : Bool → Addr) (CV CM : Addr) : Sp := fun vs H Q _ => ∃ v w D D' t u z, vs = [.ref v, .ref w] ∧ IsV CV CM D ∧ IsV CV CM D' ∧ VecAt K C U D H v t u ∧ VecAt K C U D' H w t z ∧ Q .non H
def spMinus (K : PySem.W.Frag) : Sp := fun vs H Q _ => ∃ a b u v, vs = [.ref a, .ref b] ∧ PAt K H a u ∧ PAt K H b v ∧ ∀ p, H p = none → Q (.ref p) (upd H p (.tup [.int (psub u v).1, .int (psub u v).2]))
def spRaised (K : PySem.W.Frag) (C : Addr) (U : Bool → Addr) (j : Nat) : Sp := fun vs H Q _ => ∃ g t a u, ∃ n : Nat, vs = [.ref g, .ref a, .int n] ∧ GridAt C U H g t ∧ PAt K H a u ∧ Sm u ∧ n < 2 ^ j ∧ (∀ i, i ≤ n → Sm (pw t u i)) ∧ ∀ p H', H p = none → Same H H' → PAt K H' p (pw t u n) → Q (.ref p) H'
def spWrite : Sp := fun vs H Q _ => ∃ n : Int, vs = [.int n] ∧ isIntV (.int n) = true ∧ ∀ H', Same H H' → Q (.str (toString n)) H'
def spDivG (K : PySem.W.Frag) (C : Addr) (U : Bool → Addr) : Sp := fun vs H Q _ => ∃ g t a b u v, vs = [.ref g, .ref a, .ref b] ∧ GridAt C U H g t ∧ PAt K H a u ∧ PAt K H b v ∧ Sm u ∧ Sm v ∧ Sm (flip t v) ∧ Sm (low t u v) ∧ (nrm t v).natAbs < 2 ^ 2000 ∧ 0 < nrm t v ∧ ∀ x H', Same H H' → QAt K H' (quo t u v) x → Q x H'
/-! ### classes -/
structure VIs (K : PySem.W.Frag) (C CV CM : Addr) : Prop where
  v : GIs K CV
  m : GIs K CM
  mv : PySem.W.subIn K (.ref CM) (.ref CV) = some true
  vm : PySem.W.subIn K (.ref CV) (.ref CM) = some false
  gv : PySem.W.subIn K (.ref C) (.ref CV) = some false
  gm : PySem.W.subIn K (.ref C) (.ref CM) = some false
  ne : CV ≠ CM
theorem VIs.is (i : VIs K C CV CM) (d : IsV CV CM D) : GIs K D := by rcases d with rfl | rfl; exact i.v; exact i.m
theorem VIs.kit (i : VIs K C CV CM) (d : IsV CV CM D) : PySem.W.kitOne K (.ref D) (.ref CV) = some true := by
  rcases d with rfl | rfl
  · exact kit_self
  · unfold PySem.W.kitOne
    rw [if_neg (by intro z; have z := beq_iff_eq.mp z; injection z with z; exact i.ne z.symm)]
    show (if _ then _ else _) = _
    rw [if_pos i.v.is]
    exact i.mv
theorem VIs.kitG (i : VIs K C CV CM) (n : C ≠ CV) : PySem.W.kitOne K (.ref C) (.ref CV) = some false := by
  unfold PySem.W.kitOne
  rw [if_neg (by intro z; have z := beq_iff_eq.mp z; injection z with z; exact n z)]
  show (if _ then _ else _) = _
  rw [if_pos i.v.is]
  exact i.gv
theorem VecAt.ty {H : Hp} {v : Addr} (h : VecAt K C U D H v t u) (i : GIs K D) (c : Cls K D) : TyX K H (.ref v) (.ref D) := let ⟨_, _, _, e, _⟩ := h; i.ty c e
end GL
namespace GL
open PySem PySem.Spec PyProof.Rows L2
variable {K : PySem.W.Frag} {CV CM : Addr}
theorem gm_mk {C f : Addr} {m : Str} (h1 : PySem.W.findIn K (.ref C) m = some (some (.ref f))) (h2 : PySem.W.fnIn K f = true) : ∃ f : Addr, PySem.W.findIn K (.ref C) m = some (some (.ref f)) ∧ PySem.W.fnIn K f = true := ⟨f, h1, h2⟩
/-- what the text has of an operator's names in both classes -/
structure OpTxt (K : PySem.W.Frag) (CV CM : Addr) (m r : Str) : Prop where
  fV : ∃ f : Addr, PySem.W.findIn K (.ref CV) m = some (some (.ref f))
  fM : ∃ f : Addr, PySem.W.findIn K (.ref CM) m = some (some (.ref f))
  rV : PySem.W.findIn K (.ref CV) r = some none
  rM : PySem.W.findIn K (.ref CM) r = some none
  rT : PySem.W.findIn K (.type "type") r = some none
theorem optxt_mk {m r : Str} {f g : Addr} (fV : PySem.W.findIn K (.ref CV) m = some (some (.ref f))) (fM : PySem.W.findIn K (.ref CM) m = some (some (.ref g))) (rV : PySem.W.findIn K (.ref CV) r = some none) (rM : PySem.W.findIn K (.ref CM) r = some none)
    (rT : PySem.W.findIn K (.type "type") r = some none) : OpTxt K CV CM m r := ⟨⟨_, fV⟩, ⟨_, fM⟩, rV, rM, rT⟩
structure ClsTxt (K : PySem.W.Frag) (CV CM : Addr) (nm : Str) : Prop where
  sfV : PySem.W.selfFirst K CV = true
  sfM : PySem.W.selfFirst K CM = true
  ho : PySem.W.nsIn K cStatics "thirdparty.any" = some none
  hty : PySem.W.typeIn K (.ref CM) = some (.type "type")
  hga : PySem.W.findIn K (.type "type") "__getattribute__" = some (some (.builtin "type.__getattribute__"))
  hgg : PySem.W.findIn K (.type "type") "__getattr__" = some none
  hcd : ∃ cd, PySem.W.clsIn K CM = some cd ∧ cd.name = nm
  mv : PySem.W.subIn K (.ref CM) (.ref CV) = some true
  vm : PySem.W.subIn K (.ref CV) (.ref CM) = some false
  ne : CV ≠ CM
theorem bink_mk {op : Operator} {m r nm : Str} (X : ClsTxt K CV CM nm) (O : OpTxt K CV CM m r) (hm : PySem.dunder op.info.2 = m) (hr : dunderR op.info.2 = r) (hs8 : nm.cps.foldl (fun k c => k + (Str.utf8Of c).length) 0 ≤ 100)
    (hfit : (((s!"type object '{nm.toString}' has no attribute '" : String) : Str) ++ r ++ ("'" : Str)).length ≤ sizeLine) (hfit2 : r.length ≤ sizeLine) : ∀ C D, IsV CV CM C → IsV CV CM D → BinK K C D op := by
  have bV : BinC K CV op.info.2 := ⟨X.sfV, by rw [hm]; exact O.fV, by rw [hr]; exact O.rV⟩
  have bM : BinC K CM op.info.2 := ⟨X.sfM, by rw [hm]; exact O.fM, by rw [hr]; exact O.rM⟩
  obtain ⟨cd, h1, h2⟩ := X.hcd
  intro C D hC hD
  rcases hC with rfl | rfl <;> rcases hD with rfl | rfl
  · exact .same rfl X.sfV
  · exact .sub X.ne bV bM X.mv nm cd ⟨X.ho, X.hty, by rw [hr]; exact O.rT, X.hga, X.hgg, h1, h2, hs8, by rw [hr]; exact hfit, by rw [hr]; exact hfit2⟩
  · exact .mixed (fun z => X.ne z.symm) bM bV X.vm
  · exact .same rfl X.sfM
end GL
/-! errors of own classes: made with a message or with one field, held as values, asked, raised, caught -/
namespace PySem
namespace GLE
open Builtin Builtin.ObjectAttr
/-- a chain of classes as the maker wants it: own ones first, then that of B -/
structure Chain (B : String) (bm : List Value) : Prop where
  hasB : bm.contains (.type B) = true
  exc : bm.contains (.type "BaseException") = true
  obj : bm.contains (.type "object") = true
  notA : bm.contains (.type "AttributeError") = false
  notN : bm.contains (.type "NameError") = false
  some_ : bm.isEmpty = false
  lets : ∀ me : Value, refuseLoop me "__setattr__" bm = pure ()
theorem Chain.cons {B : String} {bm : List Value} {c : Addr} (h : Chain B bm) : Chain B (.ref c :: bm) where
  hasB := by rw [List.contains_cons, h.hasB, Bool.or_true]
  exc := by rw [List.contains_cons, h.exc, Bool.or_true]
  obj := by rw [List.contains_cons, h.obj, Bool.or_true]
  notA := by rw [List.contains_cons, h.notA]; rfl
  notN := by rw [List.contains_cons, h.notN]; rfl
  some_ := rfl
  lets := fun me => by rw [refuseLoop_ref]; exact h.lets me
theorem chain_value : Chain "ValueError" [.type "ValueError", .type "Exception", .type "BaseException", .type "object"] :=
  ⟨by decide +kernel, by decide +kernel, by decide +kernel, by decide +kernel, by decide +kernel, rfl, fun me => by kernel_rfl⟩
theorem chain_key : Chain "LookupError" [.type "KeyError", .type "LookupError", .type "Exception", .type "BaseException", .type "object"] :=
  ⟨by decide +kernel, by decide +kernel, by decide +kernel, by decide +kernel, by decide +kernel, rfl, fun me => by kernel_rfl⟩
theorem chain_lookup : Chain "LookupError" [.type "LookupError", .type "Exception", .type "BaseException", .type "object"] :=
  ⟨by decide +kernel, by decide +kernel, by decide +kernel, by decide +kernel, by decide +kernel, rfl, fun me => by kernel_rfl⟩
theorem chain_index : Chain "IndexError" [.type "IndexError", .type "LookupError", .type "Exception", .type "BaseException", .type "object"] :=
  ⟨by decide +kernel, by decide +kernel, by decide +kernel, by decide +kernel, by decide +kernel, rfl, fun me => by kernel_rfl⟩
theorem chain_runtime : Chain "RuntimeError" [.type "RuntimeError", .type "Exception", .type "BaseException", .type "object"] :=
  ⟨by decide +kernel, by decide +kernel, by decide +kernel, by decide +kernel, by decide +kernel, rfl, fun me => by kernel_rfl⟩
theorem chain_overflow : Chain "OverflowError" [.type "OverflowError", .type "ArithmeticError", .type "Exception", .type "BaseException", .type "object"] :=
  ⟨by decide +kernel, by decide +kernel, by decide +kernel, by decide +kernel, by decide +kernel, rfl, fun me => by kernel_rfl⟩
theorem chain_arith : Chain "ArithmeticError" [.type "ArithmeticError", .type "Exception", .type "BaseException", .type "object"] :=
  ⟨by decide +kernel, by decide +kernel, by decide +kernel, by decide +kernel, by decide +kernel, rfl, fun me => by kernel_rfl⟩
theorem chain_zero : Chain "ZeroDivisionError" [.type "ZeroDivisionError", .type "ArithmeticError", .type "Exception", .type "BaseException", .type "object"] :=
  ⟨by decide +kernel, by decide +kernel, by decide +kernel, by decide +kernel, by decide +kernel, rfl, fun me => by kernel_rfl⟩

section
variable {prog : Program} {w : World} {A : Around} {E : Value → Shared → Prop} {R : Result → Shared → Prop} {h : Heap} {g : Array GenState} {d : Drawn} {t : Nat} {os : OsState}
variable {nm q : Str} {C N : Addr} {bs bm bB : List Value} {hdct : Bool} {sn : List Str} {sub : List Value} {ab : Bool} {col : Option Bool} {dd : Option Addr} {k0 k1 k2 k3 k5 : Option Value} {B nwId inId : String}
theorem mk_check (F : ExcBaseFacts B nwId inId bB) (ch : Chain B bm) {rest : List Value} {Q : Unit → Shared → Prop} (oC : h.get? C = some (excClassObj nm q C N bs bm hdct sn sub ab col dd k0 k1 k2 k3 k5 nwId)) (go : Q () ⟨h, g, d, t, os⟩) :
    wpAny (model prog w) A (checkBuiltinCall nwId ⟨.ref C :: rest, []⟩) Q E ⟨h, g, d, t, os⟩ := by
  have inB := (ch.cons (c := C)).hasB
  have noS := F.noStar
  simp only [checkBuiltinCall, F.newKind, F.newSplit, F.newRow]
  repeat (first | refine wpAny_loadPart_at oC ?_ | (refine wpAny_isSubtype_exc oC ?_; rw [inB]) | refine wpAny_staticBase_exc oC ?_ | refine wpAny_madeBy_exc oC ?_ | simp only [bne_self_eq_false, Bool.false_eq_true, if_false] | wp_step)
  exact go
theorem mk_new (F : ExcBaseFacts B nwId inId bB) (ch : Chain B bm) {rest : List Value} (oC : h.get? C = some (excClassObj nm q C N bs bm hdct sn sub ab col dd k0 k1 k2 k3 k5 nwId)) (few : rest.length ≤ sizeLine)
    (go : R (.ok (.ret (.ref (h.objs.size + 1)))) ⟨(h.push (W.kdv_tup rest)).push (HandSPX.excO C h.objs.size), g, d, t, os⟩) : codeAny (model prog w) A (.builtin nwId ⟨.ref C :: rest, []⟩) R ⟨h, g, d, t, os⟩ := by
  have inB := (ch.cons (c := C)).hasB
  have inA := (ch.cons (c := C)).notA
  have inN := (ch.cons (c := C)).notN
  have hend := F.ends
  refine codeAny_builtinAt F.entry ?_
  unfold Builtin.«BaseException.__new__»
  refine wpAt_bind ?_
  show wpAt _ _ _ (stack >>= _) _ _ _
  refine wpAt_bind (wpAt_stack fun p below => wpAt_of_wpAny ?_)
  wp_walk
  refine wpAt_of_wpAny ?_
  rw [F.owner]
  repeat (first | with_reducible refine wpAny_madeHere_exc F.canon oC ?_ | with_reducible refine wpAny_loadPart_at oC ?_ | (with_reducible refine wpAny_isSubtype_exc oC ?_; first | rw [inB] | rw [inA] | rw [inN]) | wp_step)
  show R _ _
  rw [Heap.size_push]
  exact go
theorem mk_tcall (F : ExcBaseFacts B nwId inId bB) (ch : Chain B bm) {rest : List Value} {fI : Addr} {Q : Fin → Shared → Prop} (oC : h.get? C = some (excClassObj nm q C N bs bm hdct sn sub ab col dd k0 k1 k2 k3 k5 nwId))
    (li : W.Looks (model prog w) h (typeLookup (.ref C) "__init__") (some (.ref fI))) (lb : ∀ me, W.Looks (model prog w) h (bindSpecial (.ref fI) me) (.ref fI, [me])) (few : rest.length ≤ sizeLine)
    (go : codeAny (model prog w) A (.call (.ref fI) ⟨.ref (h.objs.size + 1) :: rest, []⟩) (fun r s' => match r with | .ok (.ret v) => v = .none ∧ Q (.done (.ret (.ref (h.objs.size + 1)))) s' | .ok _ => False | .error e => E e s')
      ⟨(h.push (W.kdv_tup rest)).push (HandSPX.excO C h.objs.size), g, d, t, os⟩) : wpAny (model prog w) A (Builtin.«type.__call__» ⟨.ref C :: rest, []⟩) Q E ⟨h, g, d, t, os⟩ := by
  repeat (first | with_reducible refine wpAny_loadPart_at oC ?_ | with_reducible refine wpAny_madeBy_exc oC ?_ | wp_step)
  refine codeAny_call_builtin_code (Code.quiet_builtin _ F.quiet) (mk_check F ch oC ?_)
  refine mk_new F ch oC few ?_
  show wpAny _ _ _ _ _ _
  have old : ∀ b o, h.get? b = some o → ((h.push (W.kdv_tup rest)).push (HandSPX.excO C h.objs.size)).get? b = some o := fun b o z => Heap.get?_push_of_some _ (Heap.get?_push_of_some _ z)
  have oC1 := old _ _ oC
  have here : ((h.push (W.kdv_tup rest)).push (HandSPX.excO C h.objs.size)).get? (h.objs.size + 1) = some (HandSPX.excO C h.objs.size) := by heap_get
  have self_ : (Value.ref C :: bm).contains (.ref C) = true := by simp
  have li1 := li.keeps old
  have lb1 := (lb (.ref (h.objs.size + 1))).keeps old
  unfold isInstance
  repeat (first | with_reducible refine wpAny_loadPart_at here ?_ | (with_reducible refine wpAny_isSubtype_exc oC1 ?_; rw [self_]) | wp_step)
  show wpAny _ _ (typeLookup (.ref C) _) _ _ _
  refine li1.at ?_
  refine wpAny_holding (wpAny_bind (lb1.at ?_))
  refine wpAny_bind (wpAny_call (codeAny_mono go fun r s' z => ?_))
  rcases r with e | (v | _ | _ | _) <;> first | exact z | exact z.elim | skip
  obtain ⟨rfl, z⟩ := z
  first
    | exact wpAny_pure (wpAny_pure z)
    | (wp_walk; exact z)
theorem mk_call (F : ExcBaseFacts B nwId inId bB) (ch : Chain B bm) {rest : List Value} {fI : Addr} (oC : h.get? C = some (excClassObj nm q C N bs bm hdct sn sub ab col dd k0 k1 k2 k3 k5 nwId))
    (li : W.Looks (model prog w) h (typeLookup (.ref C) "__init__") (some (.ref fI))) (lb : ∀ me, W.Looks (model prog w) h (bindSpecial (.ref fI) me) (.ref fI, [me])) (few : rest.length ≤ sizeLine)
    (go : codeAny (model prog w) (A.under (.builtin "type.__call__" ⟨.ref C :: rest, []⟩)) (.call (.ref fI) ⟨.ref (h.objs.size + 1) :: rest, []⟩) (W.InitBack (h.objs.size + 1) R) ⟨(h.push (W.kdv_tup rest)).push (HandSPX.excO C h.objs.size), g, d, t, os⟩) :
    codeAny (model prog w) A (.call (.ref C) ⟨rest, []⟩) R ⟨h, g, d, t, os⟩ := by
  have f1 := tc_lookup
  have f2 := tc_bind (.ref C)
  have isT : (⟨h, g, d, t, os⟩ : Shared).TypeIs (.ref C) "type" := ⟨_, oC, rfl⟩
  refine codeAny_of_tree ?_
  show wpAny _ _ (callAny (.ref C) _) _ _ _
  repeat (any_goals (first | assumption | with_reducible refine wpAny_loadPart_at oC ?_ | wp_step))
  refine ⟨rfl, ?_⟩
  refine codeAny_call_builtin_at (Code.quiet_builtin _ (by decide +kernel)) entry_typeCall (wpAny_check_type_call_sub oC (mk_tcall F ch oC li lb few ?_))
  refine codeAny_mono go fun r s' z => ?_
  rcases r with e | (v | _ | _ | _) <;> exact z
end
end GLE
end PySem
namespace PySem
namespace GLE
open Builtin Builtin.ObjectAttr
section
variable {prog : Program} {w : World} {A : Around} {E : Value → Shared → Prop} {R : Result → Shared → Prop} {hp : Heap} {g : Array GenState} {d : Drawn} {t : Nat} {os : OsState}
/-- me.f = v on an error without a dict -/
theorem osa_first {K : W.Frag} {B : String} {f : Str} {tk : Tok} {v : Value} {x C : Addr} {fv : Array Value} {cd : ClassData} (X : K.In hp) (ox : hp.get? x = some { cls := .ref C, data := .fields fv }) (lc : W.clsIn K C = some cd) (ch : Chain B cd.mro)
    (hd : cd.hasDict = true) (no : W.findIn K (.ref C) f = some none)
    (go : ∀ h' tk' dx, (∀ b o, b ≠ x → hp.get? b = some o → h'.get? b = some o) → hp.objs.size ≤ dx → dx ≠ x → h'.get? x = some { cls := .ref C, dict := some dx, data := .fields fv } → h'.Ns1 dx (fun y => if y = f then some v else none) →
      R (.ok (.ret .none)) ⟨h', g, d, tk', os⟩) : codeAny (model prog w) A (.call (.builtin "object.__setattr__") ⟨[.ref x, .str f tk, v], []⟩) R ⟨hp, g, d, t, os⟩ := by
  have at_ : W.InstAt hp x { cls := .ref C, data := .fields fv } C none := ⟨ox, rfl, rfl, trivial⟩
  have SO := F.store_object
  have apart : x ≠ hp.objs.size := Nat.ne_of_lt (Heap.lt_size ox)
  have isO : W.Looks (model prog w) hp (isInstance (.ref x) (.type "object")) true := at_.type.andThen (W.looks_mroIn X (by unfold W.mroIn; rw [lc, Option.bind_some, if_neg (by rw [ch.some_]; decide), ch.obj]))
  refine codeAny_call_builtin SO.slot.plain SO.entry (@W.check_slot (model prog w) _ _ ⟨hp, g, d, t, os⟩ "object.__setattr__" "object" "__setattr__" (.ref x) [.str f tk, v] [] _ SO.kind SO.split isO (SO.args (.ref x) (.str f tk) v) ?_)
  have lm : W.Looks (model prog w) hp (mroOf (.ref C)) cd.mro := (W.looks_clsIn X lc).andThen .now
  have lt : W.Looks (model prog w) hp (storeTaker? none) none := .now
  have lcl : W.Looks (model prog w) hp (classData C) cd := W.looks_clsIn X lc
  rw [W.osa_eq, refuse_eq]
  refine wpAny_bind (wpAny_bind (at_.type.at (wpAny_bind (lm.at ?_))))
  rw [ch.lets]
  refine wpAny_pure (wpAny_bind (at_.type.at (wpAny_bind ((W.looks_findIn X no).at (wpAny_bind (lt.at ?_))))))
  show wpAny _ _ (storeInOwnDict (.ref x) (.ref C) (.str f tk) f v false) _ _ _
  obtain ⟨nm, bs, mro, ns, qn, has, sn, sb, ab, col, del⟩ := cd
  dsimp only at hd
  subst hd
  unfold storeInOwnDict ownDictForStores
  repeat (first | with_reducible refine HandSPX.store_in_new ?_ ?_ | with_reducible refine wpAny_loadPart_at ox ?_ | with_reducible refine lcl.at ?_ | wp_step)
  · exact ⟨_, #[], _, (Heap.get?_update_ne _ _ _ _ apart.symm).trans (Heap.get?_push_at rfl rfl), rfl, fun e he => absurd he (by simp), fun _ => rfl⟩
  · intro h' tk' hn' hs
    have ox1 : (hp.push { cls := .type "dict", data := .dict #[] }).get? x = some { cls := .ref C, data := .fields fv } := Heap.get?_push_of_some _ ox
    refine go h' tk' hp.objs.size (fun b o hb ho => ?_) (Nat.le_refl _) apart.symm ?_ hn'
    · exact (hs.2 b (Nat.ne_of_lt (Heap.lt_size ho))).trans ((Heap.get?_update_ne _ _ _ _ hb).trans (Heap.get?_push_of_some _ ho))
    · exact (hs.2 x apart).trans (Heap.get?_update_self _ ox1 rfl)
end
end GLE
end PySem
namespace PySem
namespace GLE
open PySem.W PySem.Calls PyProof.Rows PySem.HandSPX
/-- def __init__(self, f): self.f = f -/
def iArgs (f : Str) (p1 p2 : Pos) : Arguments := { posonlyargs := [], args := [{ arg := "self", annotation := none, pos := p1 }, { arg := f, annotation := none, pos := p2 }], vararg := none, kwonlyargs := [], kw_defaults := [], kwarg := none, defaults := [] }
def iBody (f : Str) (q1 q2 q3 q4 : Pos) : List Stmt := [.Assign [.Attribute (.Name "self" q1) f q2] (.Name f q3) q4]
def iScope (f : Str) : Scope := { kind := .function, names := [(PySem.Str.ofString "self", .local), (f, .local)], isGenerator := false, isCoroutine := false, more := [] }
/-- what the written part says of the class x at C, over B, whose __init__ at fI keeps one field f -/
structure ErrTxt (K : Frag) (mg : Str → Option Value) (x f : Str) (C fI : Addr) : Prop where
  gC : mg x = some (.ref C)
  cls : ∃ nm q N bs bm sn sub ab col dd k0 k1 k2 k3 k5 B nwId inId bB, ExcBaseFacts B nwId inId bB ∧ Chain B bm ∧ K.lookup C = some (excClassObj nm q C N bs bm true sn sub ab col dd k0 k1 k2 k3 k5 nwId)
  sa : findIn K (.ref C) "__setattr__" = some (some (.builtin "object.__setattr__"))
  ga : findIn K (.ref C) "__getattribute__" = some (some (.builtin "BaseException.__getattribute__"))
  gg : findIn K (.ref C) "__getattr__" = some none
  noN : findIn K (.ref C) f = some none
  iC : findIn K (.ref C) "__init__" = some (some (.ref fI))
  tC : typeIn K (.ref fI) = some (.type "function")
  kC : keepIn K (.ref C) = true
  exC : subIn K (.ref C) (.type "BaseException") = some true
  tyC : typeIn K (.ref C) = some (.type "type")
  hdC : hasDictIn K C = true
  f1 : (f == ("self" : Str)) = false
  f2 : (f == ("__debug__" : Str)) = false
  bd : ∀ (qual : Str) (p1 p2 q1 q2 q3 q4 : Pos) (doc pm : Value) (an : Option Addr) (cdv ct : Value) (a : Addr) (v : Value) (u : Unit), bindArgs (fnOf "__init__" qual (iArgs f p1 p2) (iBody f q1 q2 q3 q4) (iScope f) .none .none doc pm an cdv ct) ⟨[.ref a, v], []⟩ = pure [(PySem.Str.ofString "self", .ref a), (f, v)]
  fn : ∃ (oc : Value) (od : Option Addr) (qual : Str) (doc pm : Value) (an : Option Addr) (cdv ct : Value) (osl : Array (Option Value)) (p1 p2 q1 q2 q3 q4 : Pos),
    K.lookup fI = some ⟨oc, od, .func (fnOf "__init__" qual (iArgs f p1 p2) (iBody f q1 q2 q3 q4) (iScope f) .none .none doc pm an cdv ct), osl⟩ ∧ codeIn K cdv qual = true
theorem ld_slot {M : Model} {s : Shared} {name : Str} {scope : Scope} {L a : Addr} {cd : Value} {m : Str → Option Value} {x : Str} {pos : Pos} {v : Value} {Q : Value → Shared → Prop} {A : Around} {E : Value → Shared → Prop} (n : s.heap.Ns L m) (e : m x = some v) (go : Q v s)
    (hk : scope.kind = .function) (hl : (envOfC name scope L a cd).kindOf x = some .local) (hd : (x == ("__debug__" : Str)) = false) : wpAny M A (eval (.Name x pos) (envOfC name scope L a cd)) Q E s := wpAny_Name (wpAny_loadName_local hk hl n e go) hd
/-- an error with its dict at d, made at e -/
structure Born (h h' : Heap) (e C d : Addr) (f : Str) (v : Value) : Prop where
  old : ∀ b o, h.get? b = some o → h'.get? b = some o
  new : h.objs.size ≤ e
  obj : ∃ oe vs, h'.get? e = some oe ∧ oe.cls = .ref C ∧ oe.dict = some d ∧ oe.data = .fields vs ∧ vs[1]? = some .none
  dnew : h.objs.size ≤ d
  dne : d ≠ e
  ns : h'.Ns1 d (fun y => if y = f then some v else none)
section
variable {prog : Program} {w : World} {A : Around} {E : Value → Shared → Prop} {R : Result → Shared → Prop} {s : Shared} {K : Frag} {mg : Str → Option Value} {C fI : Addr} {x f : Str}
theorem kind_self {name : Str} {L a : Addr} {cd : Value} : (envOfC name (iScope f) L a cd).kindOf "self" = some .local := by
  show List.lookup ("self" : Str) [(PySem.Str.ofString "self", NameKind.local), (f, .local)] = some .local
  rfl
theorem kind_fld {name : Str} {L a : Addr} {cd : Value} (n : (f == ("self" : Str)) = false) : (envOfC name (iScope f) L a cd).kindOf f = some .local := by
  show List.lookup f [(("self" : Str), NameKind.local), (f, .local)] = some .local
  simp [List.lookup, n]
theorem bind_b {kf : Str → Option NameKind} {y z : Str} {a b : Value} (ky : kf y = some .local) (kz : kf z = some .local) : bindL kf [(y, a), (z, b)] (fun _ => none) z = some b := by
  simp [bindL, ky, kz]
theorem bind_a {kf : Str → Option NameKind} {y z : Str} {a b : Value} (ky : kf y = some .local) (kz : kf z = some .local) (n : y ≠ z) : bindL kf [(y, a), (z, b)] (fun _ => none) y = some a := by
  simp [bindL, ky, kz, n]
theorem err_init (T : ErrTxt K mg x f C fI) {a t0 : Addr} {v : Value} (X : K.In s.heap) (nl : s.heap.NoLimit) (oa : s.heap.get? a = some (excO C t0)) (hroom : A.depth < recursionLimit)
    (go : ∀ h' tk dx, (∀ b o, b ≠ a → s.heap.get? b = some o → h'.get? b = some o) → h'.get? a = some { cls := .ref C, dict := some dx, data := .fields #[.ref t0, .none, .none, .none, .bool false, .none] } → s.heap.objs.size ≤ dx → dx ≠ a →
      h'.Ns1 dx (fun y => if y = f then some v else none) → R (.ok (.ret .none)) { s with heap := h', toks := tk }) : codeAny (model prog w) A (.call (.ref fI) ⟨[.ref a, v], []⟩) R s := by
  obtain ⟨oc, od, qual, doc, pm, an, cdv, ct, osl, p1, p2, q1, q2, q3, q4, ho, hcd⟩ := T.fn
  obtain ⟨nm, q, N, bs, bm, sn, sub, ab, col, dd, k0, k1, k2, k3, k5, B, nwId, inId, bB, F, ch, oC⟩ := T.cls
  have lc : clsIn K C = some { name := nm, bases := bs, mro := .ref C :: bm, ns := N, qualname := q, hasDict := true, slotNames := sn, subclasses := sub, abstract := ab, collection := col, hasDel := false } := by unfold clsIn; rw [oC] <;> rfl
  refine Att.call_fn (binds := [("self", .ref a), (f, v)]) X nl ho hcd hroom (BindsTo.of_eq ?_) ?_ (fun s₁ IC => ?_) rfl rfl rfl
  · exact T.bd _ _ _ _ _ _ _ _ _ _ _ _ _ _ ()
  · have k : List.lookup f [(("self" : Str), NameKind.local), (f, .local)] = some .local := by simp [List.lookup, T.f1]
    show ((_ || _) && ((_ || _) && true)) = true
    rw [show List.lookup f (iScope f).names = some .local from k]
    rfl
  obtain ⟨h₁, tk₁, rfl⟩ := IC.toInCall.same
  have old : ∀ b o, s.heap.get? b = some o → h₁.get? b = some o := IC.toInCall.keep
  have ns := IC.toInCall.ns
  have X1 : K.In h₁ := X.keeps old
  have oa1 := old _ _ oa
  show wpAny _ _ (execs _ _) _ _ _
  refine wpAny_execs_cons (plainObj_wpAny_Assign_Attribute ?_)
  refine ld_slot (v := v) ns ?_ (ld_slot (v := .ref a) ns ?_ ?_ rfl kind_self (by decide)) rfl (kind_fld T.f1) T.f2
  · exact bind_b kind_self (kind_fld T.f1)
  · exact bind_a kind_self (kind_fld T.f1) (fun z => by
      have y := T.f1
      rw [← z] at y
      simp at y)
  refine set_plain X1 (ox := excO C t0) (od := none) ⟨oa1, rfl, rfl, trivial⟩ T.sa ?_
  refine osa_first X1 oa1 lc ch.cons rfl T.noN (fun h3 tk3 dx k3 dn dne ox3 n3 => ?_)
  show wpAny _ _ (execs _ _) _ _ _
  have z : s.heap.objs.size < h₁.objs.size := ns.lt
  exact wpAny_execs_nil (go h3 tk3 dx (fun b o hb e => k3 b o hb (old b o e)) ox3 (Nat.le_of_lt (Nat.lt_of_lt_of_le z dn)) dne n3)
theorem err_made (T : ErrTxt K mg x f C fI) {v : Value} (X : K.In s.heap) (nl : s.heap.NoLimit) (hroom : A.depth + 1 < recursionLimit) (go : ∀ h' tk e d, Born s.heap h' e C d f v → R (.ok (.ret (.ref e))) { s with heap := h', toks := tk }) :
    codeAny (model prog w) A (.call (.ref C) ⟨[v], []⟩) R s := by
  obtain ⟨nm, q, N, bs, bm, sn, sub, ab, col, dd, k0, k1, k2, k3, k5, B, nwId, inId, bB, F, ch, oC⟩ := T.cls
  obtain ⟨hp, g, dr, tk, os⟩ := s
  have old : ∀ b o, hp.get? b = some o → ((hp.push (kdv_tup [v])).push (excO C hp.objs.size)).get? b = some o := fun b o e => Heap.get?_push_of_some _ (Heap.get?_push_of_some _ e)
  have here : ((hp.push (kdv_tup [v])).push (excO C hp.objs.size)).get? (hp.objs.size + 1) = some (excO C hp.objs.size) := by heap_get
  refine mk_call F ch (X _ _ oC) (looks_findIn X T.iC) (fun me => bind_fn X me T.tC) (by rw [sizeLine_eq]; exact (by decide : 1 ≤ 16777216)) ?_
  refine err_init (s := ⟨(hp.push (kdv_tup [v])).push (excO C hp.objs.size), g, dr, tk, os⟩) T (X.keeps old) (nl.keeps old) here ?_ fun h' tk' dx k' ox dn dne n1 => ?_
  · show A.depth + 1 < recursionLimit
    exact hroom
  · have z : hp.objs.size + 1 + 1 ≤ dx := by
      have q := dn
      simpa only [Heap.size_push] using q
    exact ⟨rfl, go h' tk' (hp.objs.size + 1) dx ⟨fun b o e => k' b o (Nat.ne_of_lt (Nat.lt_succ_of_lt (Heap.lt_size e))) (old b o e), Nat.le_succ _, ⟨_, _, ox, rfl, rfl, rfl, rfl⟩, Nat.le_trans (by show hp.objs.size ≤ hp.objs.size + 1 + 1; omega) z, dne, n1⟩⟩
end
end GLE
end PySem
namespace GL
open PySem PySem.Spec PyProof.Rows L2 PySem.GLE
/-- an error of the class at C whose dict, if any, is at d, held as a value -/
def EV (C : Addr) (d : Option Addr) (a : Addr) : HO := .ext fun h => ∃ (oe : Obj) (vs : Array Value), h.get? a = some oe ∧ Zc (.ref C) d oe ∧ oe.data = .fields vs
theorem ev_ok {P : Program} {w : World} {H : Hp} {h : Heap} {a C : Addr} {d : Option Addr} {oe : Obj} {vs : Array Value} (e : h.get? a = some oe) (z : Zc (.ref C) d oe) (q : oe.data = .fields vs) : ObjOk P w H h a (EV C d a) :=
  ⟨⟨oe, vs, e, z, q⟩, ⟨oe, e⟩, fun _ _ ⟨o, v, q, r⟩ k => ⟨o, v, k o q, r⟩⟩
theorem ev_at {P : Program} {w : World} {H : Hp} {h : Heap} {a C : Addr} {d : Option Addr} (ok : HOk P w H h) (e : H a = some (EV C d a)) : ∃ (oe : Obj) (vs : Array Value), h.get? a = some oe ∧ Zc (.ref C) d oe ∧ oe.data = .fields vs := by
  have x : ObjOk P w H h a (.ext fun h => ∃ (oe : Obj) (vs : Array Value), h.get? a = some oe ∧ Zc (.ref C) d oe ∧ oe.data = .fields vs) := ok a _ e
  exact x.1
theorem exO_at {P : Program} {w : World} {H : Hp} {h : Heap} {a C : Addr} (ok : HOk P w H h) (e : H a = some (ExO (.ref C) a)) : ∃ (oe : Obj) (vs : Array Value), h.get? a = some oe ∧ Zc (.ref C) none oe ∧ oe.data = .fields vs := by
  have x : ObjOk P w H h a (.ext fun h => ∃ (oe : Obj) (vs : Array Value), h.get? a = some oe ∧ Zc (.ref C) none oe ∧ oe.data = .fields vs ∧ vs[1]? = some .none ∧ vs[2]? = some .none ∧ 4 < vs.size) := ok a _ e
  obtain ⟨⟨oe, vs, h1, h2, h3, _⟩, _⟩ := x
  exact ⟨oe, vs, h1, h2, h3⟩
theorem rel1 {f : Str} {v : V} {u : Value} (r : RelV v u) (g : Str) : RelO (List.lookup g [(f, v)]) (if g = f then some u else none) := by
  by_cases e : g = f
  · subst e
    rw [if_pos rfl]
    have q : List.lookup g [(g, v)] = some v := by simp [List.lookup]
    rw [q]
    exact r
  · rw [if_neg e]
    have n : (g == f) = false := by simpa using e
    have q : List.lookup g [(f, v)] = none := by simp [List.lookup, n]
    rw [q]
    trivial
section
variable {X : Cx} {C fI : Addr} {x f : Str} {a : Expr} {ta : TA} {p pos : Pos} {k : Nat}
/-- x(a) as a value: the error, its dict -/
def tErr (C : Addr) (f : Str) (ta : TA) : TE := fun σ H Q => ta σ H fun vs H1 => ∃ v, vs = [v] ∧ ∀ e d, H1 e = none → H1 d = none → d ≠ e → Q (.ref e) (upd (upd H1 d (.xd [(f, v)])) e (EV C (some d) e))
theorem pe_err (T : ErrTxt X.K X.mg x f C fI) (hr : Room k X.A) (ha : PA X [a] ta) (hg : Gl X x := by exact rfl) (hdb : (x == ("__debug__" : Str)) = false := by decide)
    (he : starEach [a] X.env = (false, eval a X.env) :: starEach [] X.env := by rfl) (hpl : (backTo pos (starEach [] X.env)).any (·.1) = false := by rfl) : PE X (.Call (.Name x p) [a] [] pos) (tErr C f ta) := by
  refine ⟨fun pins s σ H Q I h => ?_⟩
  refine wpAny_Call_Name_kw (ld_glob I hg T.gC ?_ hdb)
  refine PySem.W.callWith_K (h₀ := X.base) I.ok.mod.kin T.kC (thn (ha.run pos pins s σ H _ I h) fun us s1 hh => ?_) he hpl
  obtain ⟨vs, H1, I1, r1, v, ev, q1⟩ := hh
  subst ev
  refine ⟨I1.kIn, ?_⟩
  obtain ⟨u, rfl, ru⟩ := vals1 r1
  show wpAny _ _ (call (.ref C) [u]) _ _ _
  have nl := I1.nolimit
  obtain ⟨hp, g, dr, tk, os⟩ := s1
  refine wpAny_call (err_made T I1.kIn nl (by have := hr.dp; omega) fun h' tk' e d M => ?_)
  obtain ⟨oe, fv, oE, hc, hd, hdat, _⟩ := M.obj
  obtain ⟨G, g1, g2⟩ := restrict h' fun b => decide (b ≠ e)
  have gk : ∀ b, b ≠ e → G.get? b = h'.get? b := fun b hb => g1 b (decide_eq_true hb)
  have ge : G.get? e = none := g2 e (by simp)
  have old : ∀ b o, hp.get? b = some o → G.get? b = some o := fun b o q => (gk b (Nat.ne_of_lt (Nat.lt_of_lt_of_le (Heap.lt_size q) M.new))).trans (M.old b o q)
  have up : ∀ b o, G.get? b = some o → h'.get? b = some o := fun b o q => by
    by_cases hb : b = e
    · rw [hb, ge] at q; cases q
    · exact (gk b hb).symm.trans q
  have ob : ObjOk X.prog X.w (upd H1 d (.xd [(f, v)])) G d (.xd [(f, v)]) := ⟨_, M.ns.at (fun o q => (gk d M.dne).trans q), fun y => rel1 ru y⟩
  have J : Inv X pins σ (upd H1 d (.xd [(f, v)])) ⟨G, g, dr, tk', os⟩ := I1.laid (t' := tk') old M.dnew ob
  have ne : H1 e = none := I1.hok.fresh M.new
  have ne2 : upd H1 d (.xd [(f, v)]) e = none := by rw [upd_ne (Ne.symm M.dne)]; exact ne
  exact ⟨.ref e, _, J.laidN (t' := tk') up ge ne2 (ev_ok oE ⟨hc, hd⟩ hdat), rfl, q1 e d ne (I1.hok.fresh M.dnew) M.dne⟩
/-- x(a) as what is raised -/
def tMkErr (C : Addr) (f : Str) (ta : TA) : L2.St → Hp → XK → Prop := fun σ H Q => ta σ H fun vs H1 => ∃ v, vs = [v] ∧ ∀ d, H1 d = none → Q (.ref C) (some d) (upd H1 d (.xd [(f, v)]))
theorem pmk_err (T : ErrTxt X.K X.mg x f C fI) (hr : Room k X.A) (ha : PA X [a] ta) (hg : Gl X x := by exact rfl) (hdb : (x == ("__debug__" : Str)) = false := by decide)
    (he : starEach [a] X.env = (false, eval a X.env) :: starEach [] X.env := by rfl) (hpl : (backTo pos (starEach [] X.env)).any (·.1) = false := by rfl) : PMk X (.Call (.Name x p) [a] [] pos) (tMkErr C f ta) := by
  intro pins s σ H Q I h
  refine wpAny_Call_Name_kw (ld_glob I hg T.gC ?_ hdb)
  refine PySem.W.callWith_K (h₀ := X.base) I.ok.mod.kin T.kC (thn (ha.run pos pins s σ H _ I h) fun us s1 hh => ?_) he hpl
  obtain ⟨vs, H1, I1, r1, v, ev, q1⟩ := hh
  subst ev
  refine ⟨I1.kIn, ?_⟩
  obtain ⟨u, rfl, ru⟩ := vals1 r1
  show wpAny _ _ (call (.ref C) [u]) _ _ _
  have nl := I1.nolimit
  obtain ⟨hp, g, dr, tk, os⟩ := s1
  refine wpAny_call (err_made T I1.kIn nl (by have := hr.dp; omega) fun h' tk' e d M => ?_)
  show MkP X pins σ Q (.ref e) ⟨h', g, dr, tk', os⟩
  obtain ⟨oe, fv, oE, hc, hd, hdat, h1⟩ := M.obj
  obtain ⟨G, g1, g2⟩ := restrict h' fun b => decide (b ≠ e)
  have gk : ∀ b, b ≠ e → G.get? b = h'.get? b := fun b hb => g1 b (decide_eq_true hb)
  have ge : G.get? e = none := g2 e (by simp)
  have old : ∀ b o, hp.get? b = some o → G.get? b = some o := fun b o q => (gk b (Nat.ne_of_lt (Nat.lt_of_lt_of_le (Heap.lt_size q) M.new))).trans (M.old b o q)
  have up : ∀ b o, G.get? b = some o → h'.get? b = some o := fun b o q => by
    by_cases hb : b = e
    · rw [hb, ge] at q; cases q
    · exact (gk b hb).symm.trans q
  have ob : ObjOk X.prog X.w (upd H1 d (.xd [(f, v)])) G d (.xd [(f, v)]) := ⟨_, M.ns.at (fun o q => (gk d M.dne).trans q), fun y => rel1 ru y⟩
  have J : Inv X pins σ (upd H1 d (.xd [(f, v)])) ⟨G, g, dr, tk', os⟩ := I1.laid (t' := tk') old M.dnew ob
  refine ⟨e, oe, fv, ⟨G, g, dr, tk', os⟩, _, .ref C, some d, rfl, J, up, ge, oE, ⟨hc, hd⟩, hdat, h1, ?_, rfl, I1.bare, raises_own T.exC T.tyC, q1 d (I1.hok.fresh M.dnew)⟩
  rw [upd_ne (Ne.symm M.dne)]
  exact I1.hok.fresh M.new
/-- o.f, o an error held as a value -/
def tErrF (K : PySem.W.Frag) (f : Str) (to : TE) : TE := fun σ H Q => to σ H fun x H1 => ∃ (a C d : Addr) (fs : List (Str × V)) (v : V), x = .ref a ∧ XfC K C ∧ PySem.W.findIn K (.ref C) f = some none ∧ H1 a = some (EV C (some d) a) ∧ H1 d = some (.xd fs) ∧ fs.lookup f = some v ∧ Q v H1
theorem pe_errF {o : Expr} {to : TE} (ho : PE X o to) (hb : attributeBase o f X.env (eval o X.env) = eval o X.env := by rfl) : PE X (.Attribute o f pos) (tErrF X.K f to) := by
  refine ⟨fun pins s σ H Q I h => ?_⟩
  refine attr_of hb (thn (ho.run pins s σ H _ I h) fun u s1 hh => ?_)
  obtain ⟨x, H1, I1, rx, a, C, d, fs, v, ex, T, no, ea, ed, l, q⟩ := hh
  subst ex
  obtain rfl : u = Value.ref a := rx
  obtain ⟨oe, vs, oE, hz, hdat⟩ := ev_at I1.hok ea
  have hx : ObjOk X.prog X.w H1 s1.heap d (.xd fs) := I1.hok d _ ed
  obtain ⟨mA, hns, hr⟩ := hx
  obtain ⟨od, ho, hl⟩ := lookIn_ns hns
  obtain ⟨u, hu, ru⟩ := RelO.some_of (v := v) (o := mA f) (by rw [← l]; exact hr f)
  have J : PySem.W.InstAt s1.heap a oe C (some od) := ⟨oE, hz.1, by unfold PySem.W.notCls; rw [hdat] <;> rfl, by rw [hz.2]; exact ho⟩
  exact HandSPX.exc_get I1.kIn J T.ga T.gg T.exC (PySem.W.findObj_own T.hdC no rfl (by rw [hl, hu])) (handed_of ru) ⟨v, H1, I1.tok _, ru, q⟩
end
/-! ### isinstance -/
structure ErrC (K : PySem.W.Frag) (D : Addr) : Prop where
  cl : (PySem.W.clsIn K D).isSome = true
  hg : PySem.W.findIn K (.ref D) "__getattribute__" = some (some (.builtin "BaseException.__getattribute__"))
  hk : PySem.W.findIn K (.ref D) "__getattr__" = some none
  hs : PySem.W.subIn K (.ref D) (.type "BaseException") = some true
  ha : PySem.W.findIn K (.ref D) "__class__" = some (some (.builtin "object.__class__"))
  hn : PySem.W.specialIn K (.builtin "object.__class__") "__get__" = some (some (.builtin "getset_descriptor.__get__"))
  ht : PySem.W.takesIn K (.builtin "object.__class__") = some true
  hm : PySem.W.mroIn K D (.type "object") = some true
/-- an error of the class D is tracked at a, its dict at d, if any -/
def IsErr (H : Hp) (D a : Addr) : Prop := H a = some (ExO (.ref D) a) ∨ ∃ d fs, H a = some (EV D (some d) a) ∧ H d = some (.xd fs)
theorem is_run {X : Cx} {pins : List (Addr × Obj)} {σ : L2.St} {H : Hp} {s : Shared} {Q : Value → Shared → Prop} {E : Value → Shared → Prop} {A : Around} {D a : Addr} {cv : Value} {b : Bool} {oe : Obj} {od : Option Obj} (C : ErrC X.K D) (I : Inv X pins σ H s) (J : PySem.W.InstAt s.heap a oe D od)
    (e : PySem.W.kitOne X.K (.ref D) cv = some b) (q : ∀ tk, Q (.bool b) { s with toks := tk }) : wpAny (model X.prog X.w) A (call (.builtin "isinstance") [.ref a, cv]) Q E s :=
  PySem.W.kia_one (PySem.W.kitx_exc C.cl C.hg C.hk C.hs C.ha C.hn C.ht C.hm) I.kIn J e (fun z => nomatch z) q
theorem IsErr.inst {X : Cx} {pins : List (Addr × Obj)} {σ : L2.St} {H : Hp} {s : Shared} {D a : Addr} (I : Inv X pins σ H s) (h : IsErr H D a) : ∃ oe od, PySem.W.InstAt s.heap a oe D od := by
  rcases h with e | ⟨d, fs, e, ed⟩
  · obtain ⟨oe, vs, h1, h2, h3⟩ := exO_at I.hok e
    exact ⟨oe, none, h1, h2.1, by unfold PySem.W.notCls; rw [h3] <;> rfl, by rw [h2.2]; trivial⟩
  · obtain ⟨oe, vs, h1, h2, h3⟩ := ev_at I.hok e
    have hx : ObjOk X.prog X.w H s.heap d (.xd fs) := I.hok d _ ed
    obtain ⟨mA, hns, hr⟩ := hx
    obtain ⟨od, ho, hl⟩ := lookIn_ns hns
    exact ⟨oe, some od, h1, h2.1, by unfold PySem.W.notCls; rw [h3] <;> rfl, by rw [h2.2]; exact ho⟩
def rIsErr (K : PySem.W.Frag) : List V → Hp → VK → Prop := fun xs H Q => ∃ (a D : Addr) (c : V) (cv : Value) (b : Bool), xs = [.ref a, c] ∧ ErrC K D ∧ IsErr H D a ∧ ClsV c cv ∧ PySem.W.kitOne K (.ref D) cv = some b ∧ Q (.bl b) H
theorem call_isErr {X : Cx} : CallR X (.builtin "isinstance") (rIsErr X.K) := by
  intro pins s σ H xs us Q I r h
  obtain ⟨a, D, c, cv, b, rfl, C, ie, hc, e, q⟩ := h
  obtain ⟨u1, u2, rfl, r1, r2⟩ := vals2 r
  have e2 := hc.eq r2
  subst e2
  cases (show u1 = Value.ref a from r1)
  obtain ⟨oe, od, J⟩ := ie.inst I
  exact is_run C I J e fun tk => ⟨.bl b, H, I.tok tk, rfl, q⟩
/-- .. of an error that is pinned -/
def rIsPin (K : PySem.W.Frag) (pn : List (Addr × Obj)) : List V → Hp → VK → Prop := fun xs H Q => ∃ (p : Addr × Obj) (D : Addr) (c : V) (cv : Value) (b : Bool), xs = [.ref p.1, c] ∧ p ∈ pn ∧ Zc (.ref D) none p.2 ∧ (∃ vs, p.2.data = .fields vs) ∧ ErrC K D ∧ ClsV c cv ∧ PySem.W.kitOne K (.ref D) cv = some b ∧ Q (.bl b) H
theorem call_isPin {X : Cx} : CallR X (.builtin "isinstance") (rIsPin X.K X.pn) := by
  intro pins s σ H xs us Q I r h
  obtain ⟨p, D, c, cv, b, rfl, hp, hz, ⟨vs, hd⟩, C, hc, e, q⟩ := h
  obtain ⟨u1, u2, rfl, r1, r2⟩ := vals2 r
  have e2 := hc.eq r2
  subst e2
  cases (show u1 = Value.ref p.1 from r1)
  have P := I.pin p (List.mem_append_left _ hp)
  have J : PySem.W.InstAt s.heap p.1 p.2 D none := ⟨P.1, hz.1, by unfold PySem.W.notCls; rw [hd] <;> rfl, by rw [hz.2]; trivial⟩
  exact is_run C I J e fun tk => ⟨.bl b, H, I.tok tk, rfl, q⟩
/-! ### a text, or none of it -/
def wd (t : Str) (b : Bool) : Str := if b then t else ""
theorem wd_le {t : Str} {b : Bool} {n : Nat} (h : t.length ≤ n) : (wd t b).length ≤ n := by
  cases b
  · exact Nat.le_trans (show (("" : Str).length) ≤ 0 by decide) (Nat.zero_le _)
  · exact h
def rTimesB : R2 := fun x y H Q => ∃ (t : Str) (b : Bool), x = .str t ∧ y = .int (if b then 1 else 0) ∧ t.length < 1000 ∧ Q (.str (wd t b)) H
theorem op_timesB {X : Cx} : OpR X (binaryOp .Mult) rTimesB := by
  intro pins s σ H x y v u Q I rx ry h
  obtain ⟨t, b, rfl, rfl, ht, q⟩ := h
  obtain ⟨t1, rfl⟩ := rx
  obtain ⟨t2, rfl⟩ := ry
  cases b with
  | true =>
    refine P.mul_str (n := 1) (by decide) (fun _ z => absurd z (by simp)) (fun _ z => absurd z (by simp)) ?_
    show (Made.val (.str t t1)).post _ s
    exact ⟨.str t, H, I, ⟨_, rfl⟩, q⟩
  | false =>
    refine P.mul_str_none (n := 0) (by decide) (by decide) ?_
    exact ⟨.str "", H, I.tok _, ⟨_, rfl⟩, q⟩
end GL
/-! except clauses with and without a name, one behind the other; defs called in a suite with the error that it holds -/
namespace GL
open PySem PySem.Spec PyProof.Rows L2 PySem.GLE
/-- a clause: its class, the slot of its name if it has one, its suite's reading -/
structure Cls1 where
  c : Value
  i : Option Nat
  ts : Addr → Value → Option Addr → TS
def goEnd (i : Nat) (D : Ends) : Ends := { nx := fun σ H => D.nx (σ.set i none) H, rt := D.rt, bk := fun σ H => D.bk (σ.set i none) H, ct := fun σ H => D.ct (σ.set i none) H }
def runC (q : Cls1) (D : Ends) (a : Addr) (cls : Value) (d : Option Addr) (σ : L2.St) (H : Hp) : Prop :=
  match q.i with
  | none => q.ts a cls d D σ H
  | some i => q.ts a cls d (goEnd i D) (σ.set i (some (.ref a))) H
/-- what the clauses together wish of an error of the body -/
def wCls (K : PySem.W.Frag) (W0 : WX) (D : Ends) : List Cls1 → WX
  | [] => W0
  | q :: r => fun cls d σ H => ∃ b, PySem.W.exmOne K cls q.c = some b ∧ (b = true → ∀ a, H a = none → runC q D a cls d σ H) ∧ (b = false → wCls K W0 D r cls d σ H)
inductive Clauses (X : Cx) : List ExceptHandler → List Cls1 → Prop
  | nil : Clauses X [] []
  | bare {x : Str} {c : Value} {ts : Addr → Value → Option Addr → TS} {b₀ : Stmt} {suite : List Stmt} {np pos' : Pos} {hds : List ExceptHandler} {l : List Cls1} (nm : Names X x c)
      (su : ∀ (a : Addr) (oe : Obj) (cls : Value) (d : Option Addr) (pn : List (Addr × Obj)), Zc cls d oe → (∃ vs, oe.data = .fields vs) → PSs (X.suite a ((a, oe) :: pn)) (b₀ :: suite) (ts a cls d)) (r : Clauses X hds l) :
      Clauses X (.ExceptHandler (some (.Name x np)) none (b₀ :: suite) pos' :: hds) (⟨c, none, ts⟩ :: l)
  | named {x n : Str} {i : Nat} {c : Value} {ts : Addr → Value → Option Addr → TS} {b₀ : Stmt} {suite : List Stmt} {np pos' : Pos} {hds : List ExceptHandler} {l : List Cls1} (nm : Names X x c) (nd : X.N.Nodup) (at_ : X.N[i]? = some n) (ln : X.env.kindOf n = some .local)
      (su : ∀ (a : Addr) (oe : Obj) (cls : Value) (d : Option Addr) (pn : List (Addr × Obj)), Zc cls d oe → (∃ vs, oe.data = .fields vs) → PSs (X.suite a ((a, oe) :: pn)) (b₀ :: suite) (ts a cls d)) (r : Clauses X hds l) :
      Clauses X (.ExceptHandler (some (.Name x np)) (some n) (b₀ :: suite) pos' :: hds) (⟨c, some i, ts⟩ :: l)
section
variable {X : Cx} {body : List Stmt} {h₀ : ExceptHandler} {hds : List ExceptHandler} {l : List Cls1} {pos : Pos} {tb : WX → TS} {W0 : WX}
theorem ps_clauses (hs : X.stack = X.env :: X.outer) (hf : X.env.frame = some X.env.locals) (tk : Takes X W0)
    (hb : ∀ (W : WX) (pn : List (Addr × Obj)) (xe : Value → Shared → Prop), Takes (X.tr pn xe) W → PassesOwn (model X.prog X.w) X.A X.env xe → PSs (X.tr pn xe) body (tb W))
    (hh : Clauses X (h₀ :: hds) l) : PS X (.Try body (h₀ :: hds) [] [] pos) (fun D σ H => tb (wCls X.K W0 D l) D σ H) := by
  refine ⟨fun pins s σ H D I h => ?_⟩
  have ok := I.ok
  have frA : X.A.frames = some (X.env :: X.outer) := by rw [ok.frames, hs]
  refine wpAny_Try_except ?_
  refine wpAny_mono ((hb (wCls X.K W0 D l) (X.pn ++ pins) (fun e s₁ => wpAny (model X.prog X.w) X.A (noteFrame e X.env) (fun _ s₂ => wpAny (model X.prog X.w) X.A (setFlight e none) (fun _ s₃ =>
    wpAny (model X.prog X.w) X.A (handleBy e X.env (h₀ :: hds)) (SP X pins D) X.xe s₃) X.xe s₂) X.xe s₁) (fun u s' xx => ?_) PassesOwn.looking).run [] s σ H D (I.toTry _) h) (fun f s1 sp1 => ?_) (fun e s1 he => he)
  · obtain ⟨a, B, sI, pins', σ', H', cls, d, rfl, J', nb, up, sky, na, os, ag, w⟩ := xx
    have J : Inv X pins σ' H' sI := J'.ofTry ok
    have sky1 : Sky B (X.env :: X.outer) a (Zc cls d) X.env.locals s'.heap := by rw [← hs]; exact sky
    show wpAny (model X.prog X.w) X.A (noteFrame (.ref a) X.env) _ _ _
    refine Sky.land Zc.steady frA hf sky1 fun h3 fl3 up3 => ?_
    have J3 : Inv X pins σ' H' { s' with heap := h3 } := J.landed nb fl3.1 (up.trans up3) os ag
    obtain ⟨oe3, vs3, oa3, zc3, dt3⟩ := fl3.there
    have outF : ∀ {h : Heap} {o : Obj} {vs : Array Value}, h.FunFrames B (X.env :: X.outer) → h.get? a = some o → o.data = .fields vs → a ∉ frs (X.env :: X.outer) := fun {h o vs} ff e dd hm => by
      obtain ⟨_, o', e', hnf⟩ := ff.mem hm
      rw [e] at e'; cases e'
      exact hnf _ dd
    have nfr := outF fl3.2.2.1 oa3 dt3
    have nL : a ≠ X.env.locals := fun z => nfr (List.mem_filterMap.mpr ⟨X.env, List.mem_cons_self, by rw [hf, z]⟩)
    have nF : a ∉ X.fs := fun hm => by
      obtain ⟨e, he, q⟩ := List.mem_filterMap.mp hm
      exact nfr (List.mem_filterMap.mpr ⟨e, List.mem_cons_of_mem _ he, q⟩)
    have S3 := J3.suite oa3 dt3 na nL nF
    have tell : ∀ {x : Str} {c : Value} {np : Pos} {Q : Value → Shared → Prop} {E : Value → Shared → Prop}, Names X x c → Q c { s' with heap := h3 } → wpAny (model X.prog X.w) (X.A.mark (some (.ref a))) (eval (.Name x np) X.env) Q E { s' with heap := h3 } := fun {x c np Q E} nm q => by
      obtain ⟨hg, hdbg, hm | ⟨hm, hv, hnn⟩⟩ := nm
      · exact ld_glob (X := X.suite a ((a, oe3) :: (X.pn ++ pins))) S3 hg hm q hdbg
      · exact ld_blt (X := X.suite a ((a, oe3) :: (X.pn ++ pins))) S3 hg hm hv q hnn hdbg
    have LT : PySem.W.Looks (model X.prog X.w) h3 (typeOf (.ref a)) cls := fun A Q E s k q => wpAny_typeOf_ref (k _ _ oa3) (by rw [zc3.1]; exact q)
    have all : ∀ {hds' : List ExceptHandler} {l' : List Cls1}, Clauses X hds' l' → wCls X.K W0 D l' cls d σ' H' → wpAny (model X.prog X.w) X.A (handleBy (.ref a) X.env hds') (SP X pins D) X.xe { s' with heap := h3 } := by
      intro hds' l' hk
      induction hk with
      | nil =>
        intro w
        refine wpAny_handleBy_nil ?_
        obtain ⟨k1, k2, k3, oe, vs, T, oT, ts', he, hz, hd, h1, hr⟩ := id fl3
        unfold PySem.passOn
        refine wpAny_bind (wpAny_field he hd h1 ?_)
        rw [if_neg (show ¬ ((Value.ref T == Value.none) = true) from by simp)]
        have fin : wpAny (model X.prog X.w) X.A (setFlight (.ref a) X.env.frame) (fun _ s4 => wpAny (model X.prog X.w) X.A (throw (.ref a) : Sem Flow) (SP X pins D) X.xe s4) X.xe { s' with heap := h3 } := by
          rw [hf]
          refine HandSPX.setFlight_upZ fl3 fun h4 hh4 up4 => wpAny_throw (tk _ _ ?_)
          exact ⟨a, B, sI, pins, σ', H', cls, d, rfl, J, nb, (up.trans up3).trans up4, .inr (.inr (by rw [hs]; exact hh4)), na, os, ag, w⟩
        first
          | exact wpAny_bind (wpAny_pure (wpAny_bind fin))
          | exact wpAny_bind fin
      | @bare x c ts b₀ suite np pos' hds2 l2 nm su r ih =>
        intro w
        obtain ⟨b, hb1, yes, no⟩ := w
        refine wpAny_handleBy_cons (codeAny_handlers_test ?_) (by intro q; cases q)
        have LM := PySem.W.exm_one (M := model X.prog X.w) (J3.kIn) LT hb1
        refine tell nm (LM.here ?_)
        cases b with
        | false =>
          show wpAny _ X.A (handleBy (.ref a) X.env hds2) _ _ _
          exact ih (no rfl)
        | true =>
          refine codeAny_handlers_suite ?_
          refine HandSPX.lands_againZ fl3 fun h4 fl4 up4 => ?_
          have J4 : Inv X pins σ' H' { s' with heap := h4 } := J.landed nb fl4.1 ((up.trans up3).trans up4) os ag
          obtain ⟨oe4, vs4, oa4, zc4, dt4⟩ := fl4.there
          have S4 := J4.suite oa4 dt4 na nL nF
          refine wpAny_mono ((su a oe4 cls d (X.pn ++ pins) zc4 ⟨_, dt4⟩).run [] _ _ H' _ S4 (yes rfl a na)) (fun f s6 sp6 => ?_) (fun _ _ z => False.elim z)
          cases f with
          | ret u =>
            obtain ⟨v6, σ6, H6, S6, r6, q6⟩ := sp6
            exact ⟨_, _, _, S6.unsuite ok, r6, q6⟩
          | next | brk | cont =>
            obtain ⟨σ6, H6, S6, q6⟩ := sp6
            exact ⟨_, _, S6.unsuite ok, q6⟩
      | @named x n i c ts b₀ suite np pos' hds2 l2 nm nd at_ ln su r ih =>
        intro w
        obtain ⟨b, hb1, yes, no⟩ := w
        refine wpAny_handleBy_cons (codeAny_handlers_test ?_) (by intro q; cases q)
        have LM := PySem.W.exm_one (M := model X.prog X.w) (J3.kIn) LT hb1
        refine tell nm (LM.here ?_)
        cases b with
        | false =>
          show wpAny _ X.A (handleBy (.ref a) X.env hds2) _ _ _
          exact ih (no rfl)
        | true =>
          refine codeAny_handlers_suite_as ?_
          refine HandSPX.lands_againZ fl3 fun h4 fl4 up4 => ?_
          have J4 : Inv X pins σ' H' { s' with heap := h4 } := J.landed nb fl4.1 ((up.trans up3).trans up4) os ag
          obtain ⟨oe4, vs4, oa4, zc4, dt4⟩ := fl4.there
          have S4 := J4.suite oa4 dt4 na nL nF
          refine store_ok (X := X.suite a ((a, oe4) :: (X.pn ++ pins))) (v := .ref a) S4 nd at_ (.inl ln) rfl (fun s5 S5 => ?_) (.inr ln)
          refine wpAny_mono ((su a oe4 cls d (X.pn ++ pins) zc4 ⟨_, dt4⟩).run [] s5 _ H' _ S5 (yes rfl a na)) (fun f s6 sp6 => ?_) (fun _ _ z => False.elim z)
          have end_ : ∀ {σ6 : L2.St} {H6 : Hp} {Q : Shared → Prop}, Inv (X.suite a ((a, oe4) :: (X.pn ++ pins))) [] σ6 H6 s6 → (∀ s7, Inv X pins (σ6.set i none) H6 s7 → Q s7) →
              wpAny (model X.prog X.w) X.A (do bindName X.env n .none; unbindBehindTheSuite X.env n pos') (fun _ s7 => Q s7) X.xe s6 := fun {σ6 H6 Q} S6 hq => gone_ok (S6.unsuite ok) nd at_ ln hq
          cases f with
          | ret u =>
            obtain ⟨v6, σ6, H6, S6, r6, q6⟩ := sp6
            exact end_ S6 fun s7 J7 => ⟨_, _, _, J7, r6, q6⟩
          | next | brk | cont =>
            obtain ⟨σ6, H6, S6, q6⟩ := sp6
            exact end_ S6 fun s7 J7 => ⟨_, _, J7, q6⟩
    exact all hh w
  · cases f with
    | next =>
      obtain ⟨σ', H', J', q⟩ := sp1
      exact wpAny_execs_nil ⟨σ', H', J'.ofTry ok, q⟩
    | ret u =>
      obtain ⟨v, σ', H', J', r, q⟩ := sp1
      exact ⟨v, σ', H', J'.ofTry ok, r, q⟩
    | brk | cont =>
      obtain ⟨σ', H', J', q⟩ := sp1
      exact ⟨σ', H', J'.ofTry ok, q⟩
end
/-- a def that gets the error that is handled where it is called -/
structure FnE (P : Program) (w : World) (K : PySem.W.Frag) (mg : Str → Option Value) (base : Heap) (k : Nat) (f : Addr) (fd : FuncData) (ps : List Str) (sp : Addr × Obj → Sp) : Prop where
  len : ∀ p vs H Q E, sp p vs H Q E → vs.length = ps.length
  go : ∀ {A : Around} {outer : List Env} {s : Shared} {H : Hp} {args : Args} {us : List Value} {vs : List V} {Q : VK} {E : XK} {p : Addr × Obj}, L2H.RoomH k A → L2H.PinOk outer H s p → Env0 P w K mg base A outer s H → BindsTo s fd args (ps.zip us) → Vals vs us → sp p vs H Q E →
    codeAny (model P w) A (.call (.ref f) args) (CR CX0 outer P w H s Q E) s
theorem fnE_mk {P : Program} {w : World} {K : PySem.W.Frag} {mg : Str → Option Value} {base : Heap} {k : Nat} {f : Addr} {fd : FuncData} {ps N : List Str} {sp : Addr × Obj → Sp} {x qual : Str} {st : Stmt} (F : Fun K x qual st f fd) (S : FnScope N ps (defScope st)) (len : ∀ p vs H Q E, sp p vs H Q E → vs.length = ps.length)
    (body : ∀ (cdv : Value) (A : Around) (outer : List Env) (s : Shared) (H : Hp) (vs : List V) (Q : VK) (E : XK) (p : Addr × Obj), L2H.RoomH k (A.deeper (envOfC qual (defScope st) s.heap.objs.size f cdv)) → sp p vs H Q E →
      ∃ t, PSs (L2H.cxH CX0 P w K mg base N qual (defScope st) f cdv A outer s H E p) (defBody st) t ∧ t { nx := fun _ H' => Q .non H', rt := Q } (start N vs) H) : FnE P w K mg base (k + 1) f fd ps sp := by
  obtain ⟨oc, od, kV, doc, pm, an, cdv, ct, osl, eF, at_, cR⟩ := F.ex
  subst eF
  constructor
  · exact len
  intro A outer s H args us vs Q E p room pin e0 bi vals asked
  have inK : K.In s.heap := e0.mod.kin.keeps (fun b o q => (e0.bs b o q).1)
  have line : s.heap.NoLimit := e0.mod.nolimit.keeps (fun b o q => (e0.bs b o q).1)
  have kinds : ∀ y ∈ ps.zip us, (defScope st).names.lookup y.1 = some .local ∨ ((defScope st).names.lookup y.1 = some .cell ∧ ((cellsFrom (s.heap.objs.size + 1) (defScope st).names []).lookup y.1).isSome = true) := by
    intro ⟨n, v⟩ hy
    cases S.par n (List.of_mem_zip hy).1 with
    | inl q => exact Or.inl q
    | inr q => exact Or.inr ⟨q, PySem.W.cellsFrom_some _ _ _ (Or.inl q)⟩
  apply codeAny_call_function room.depth (inK _ _ at_) rfl S.co S.gen rfl (PySem.W.codeRec_of inK cR)
  apply bi
  refine wpAny_newFunctionEnv_cells S.kind kinds (fun env eE s1 x1 => ?_)
  subst eE
  obtain ⟨t, rule, q⟩ := body cdv A outer s H vs Q E p (room.deeper _) asked
  have I0 := L2H.inv_startH (CX := CX0) (E := E) S pin e0 (len _ _ _ _ _ asked) vals x1
  refine ⟨line.keeps x1.toInCall.keep, codeAny_func (wpAny_mono (rule.run [] s1 _ H _ I0 q) (fun fl s' done => ?_) (fun _ _ z => z))⟩
  cases fl with
  | ret u => obtain ⟨v, _, H', J, rv, qv⟩ := done; exact ⟨v, H', J.os, J.bare, J.base, J.hok, rv, qv⟩
  | next => obtain ⟨_, H', J, qv⟩ := done; exact ⟨V.non, H', J.os, J.bare, J.base, J.hok, rfl, qv⟩
  | brk => obtain ⟨_, _, _, z⟩ := done; exact z.elim
  | cont => obtain ⟨_, _, _, z⟩ := done; exact z.elim
structure HasE (P : Program) (w : World) (K : PySem.W.Frag) (mg : Str → Option Value) (base : Heap) (x : Str) (k : Nat) (ps : List Str) (sp : Addr × Obj → Sp) : Prop where
  ex : ∃ f fd, FnE P w K mg base k f fd ps sp ∧ mg x = some (.ref f) ∧ PySem.W.keepIn K (.ref f) = true ∧ Binds K fd ps []
section
variable {X : Cx} {k : Nat} {ps : List Str} {sp : Addr × Obj → Sp} {E : XK} {x : Str} {p pos : Pos} {e : Expr} {es : List Expr} {t : TA}
theorem pe_callE {a : Addr} {oe : Obj} {pn : List (Addr × Obj)} (h : HasE X.prog X.w X.K X.mg X.base x k ps sp) (hr : L2H.RoomH k (X.suite a ((a, oe) :: pn)).A) (hx : Passes CX0 (X.suite a ((a, oe) :: pn)) E) (ha : PA (X.suite a ((a, oe) :: pn)) (e :: es) t) (hg : Gl X x := by exact rfl)
    (hdb : (x == ("__debug__" : Str)) = false := by decide) (he : starEach (e :: es) X.env = (false, eval e X.env) :: starEach es X.env := by rfl) (hpl : (backTo pos (starEach es X.env)).any (·.1) = false := by rfl) :
    PE (X.suite a ((a, oe) :: pn)) (.Call (.Name x p) (e :: es) [] pos) (tCall (sp (a, oe)) [] E t) := by
  obtain ⟨f, fd, F, m, kp, b⟩ := h.ex
  constructor
  intro pins s σ H Q I q
  apply wpAny_Call_Name_kw
  apply ld_glob I hg m _ hdb
  refine PySem.W.callWith_K (h₀ := X.base) I.ok.mod.kin kp (thn (ha.run pos pins s σ H _ I q) (fun us s1 z => ?_)) he hpl
  obtain ⟨vs, H1, I1, r, q1⟩ := z
  rw [List.append_nil] at q1
  refine ⟨I1.kIn, ?_⟩
  have n1 : (us ++ []).length = ps.length := by rw [List.append_nil, ← r.length]; exact F.len _ _ _ _ _ q1
  have b1 := b s1 us I1.kIn n1
  rw [List.append_nil] at b1
  have P1 := I1.pin (a, oe) (List.mem_append_left _ List.mem_cons_self)
  have pin : L2H.PinOk X.stack H1 s1 (a, oe) := ⟨P1.1, P1.2.1, fun hm => (List.mem_cons.mp (I1.stkSub a hm)).elim P1.2.2.1 P1.2.2.2.1, P1.2.2.2.2⟩
  refine wpAny_call (codeAny_mono (F.go hr pin I1.env0 b1 r q1) fun res s' z => ?_)
  match res, z with
  | .error _, z => exact hx pins σ H1 s1 _ s' I1 z
  | .ok (.ret _), z => exact I1.after z
end
end GL
/-! repr of data in which a dict of one int to an int may stand -/
namespace GL
open PySem PySem.Spec PyProof.Rows L2
mutual
inductive Dq (K : PySem.W.Frag) (H : Hp) : V → PyData → Prop
  | dp {v : V} {d : PyData} : Dp K H v d → okD d = true → Dq K H v d
  | one {a : Addr} {k n : Int} : H a = some (.dK [(.inl k, .int n)]) → k.natAbs < 10 ^ 4300 → n.natAbs < 10 ^ 4300 → Dq K H (.ref a) (.dict [(.int k, .int n)])
  | emp {a : Addr} : H a = some (.dK []) → Dq K H (.ref a) (.dict [])
  | lst {a : Addr} {xs : List V} {ds : List PyData} : SqL K H a xs → DqAll K H xs ds → Dq K H (.ref a) (.list ds)
  | tup {a : Addr} {xs : List V} {ds : List PyData} : SqT K H a xs → DqAll K H xs ds → Dq K H (.ref a) (.tuple ds)
inductive DqAll (K : PySem.W.Frag) (H : Hp) : List V → List PyData → Prop
  | nil : DqAll K H [] []
  | cons {v : V} {vs : List V} {d : PyData} {ds : List PyData} : Dq K H v d → DqAll K H vs ds → DqAll K H (v :: vs) (d :: ds)
end
section
variable {X : Cx} {pins : List (Addr × Obj)} {σ : L2.St} {H : Hp} {s : Shared} {prog : Program} {w : World}
theorem emp_at (I : Inv X pins σ H s) {a : Addr} (e : H a = some (.dK [])) : (a == sysModules) = false ∧ ∃ o ep, s.heap.get? a = some o ∧ o.cls = .type "dict" ∧ o.data = .dict #[] ep := by
  obtain ⟨_, sys, vs, rel, dd⟩ := dk_of I.hok e
  obtain ⟨o, es, ep, ho, hx, hdat, _, hp, _⟩ := dd
  cases rel
  generalize he : es.toList = l at hp
  cases hp
  have : es = #[] := by rw [← Array.toArray_toList (xs := es), he]
  subst this
  exact ⟨sys, o, ep, ho, hx.1, hdat⟩
mutual
theorem Dq.reads (I : Inv X pins σ H s) : ∀ {d : PyData} {v : V} {u : Value}, Dq X.K H v d → RelV v u → ∃ as, Reads s.heap u d as
  | _, _, _, .dp h _, r => Dp.reads I _ _ _ h r
  | _, _, u, .one (k := k) (n := n) e k1 n1, r => by
    cases (show u = .ref _ from r)
    obtain ⟨_, _, vs, rel, dd⟩ := dk_of I.hok e
    obtain ⟨o, es, ep, ho, hx, hdat, _, hp, _⟩ := dd
    cases rel with
    | cons r1 rs =>
      cases rs
      generalize he : es.toList = l at hp
      cases hp with
      | cons p1 p2 ps =>
        cases ps
        rename_i q _ en
        obtain ⟨e1, tn, e3⟩ := r1
        have pk : keyIs (.inl k) en.key = true := by
          have z : keyIs q.1 en.key = true := p1
          rw [← show (Sum.inl k : Key) = q.1 from e1] at z
          exact z
        obtain ⟨i, t, z1, z2⟩ | ⟨x, t, z1, z2⟩ := keyIs_shape pk
        · cases z1
          refine ⟨_, Reads.dict (as := []) (bs := []) ho hx.1 hdat ?_ ?_⟩
          · rw [he]
            show ReadsAll _ [en.key] [_] _
            rw [z2]
            exact ReadsAll.cons (Reads.int k t) ReadsAll.nil
          · rw [he]
            show ReadsAll _ [en.val] [_] _
            rw [p2, e3]
            exact ReadsAll.cons (Reads.int n tn) ReadsAll.nil
        · cases z1
  | _, _, u, .emp e, r => by
    cases (show u = .ref _ from r)
    obtain ⟨_, o, ep, ho, hc, hd⟩ := emp_at I e
    exact ⟨_, Reads.dict (as := []) (bs := []) (kvs := []) ho hc hd ReadsAll.nil ReadsAll.nil⟩
  | _, _, u, .lst hs ha, r => by
    cases (show u = .ref _ from r)
    obtain ⟨its, rv, ⟨o, n, ho, hc, _, hd⟩, _⟩ := I.list hs
    obtain ⟨as, hr⟩ := Dq.readsAll I ha rv
    exact ⟨_, Reads.list ho hc hd hr⟩
  | _, _, u, .tup hs ha, r => by
    cases (show u = .ref _ from r)
    obtain ⟨its, rv, ⟨o, ho, hc, n, hd⟩, _⟩ := I.tuple hs
    obtain ⟨as, hr⟩ := Dq.readsAll I ha rv
    exact ⟨_, Reads.tuple ho hc hd hr⟩
theorem Dq.readsAll (I : Inv X pins σ H s) : ∀ {ds : List PyData} {vs : List V} {us : List Value}, DqAll X.K H vs ds → Vals vs us → ∃ as, ReadsAll s.heap us ds as
  | _, _, _, .nil, .nil => ⟨_, ReadsAll.nil⟩
  | _, _, _, .cons h1 h2, .cons r1 r2 => by
    obtain ⟨as, q1⟩ := Dq.reads I h1 r1
    obtain ⟨bs, q2⟩ := Dq.readsAll I h2 r2
    exact ⟨_, ReadsAll.cons q1 q2⟩
end
mutual
theorem Dq.rep (I : Inv X pins σ H s) (nd : s.heap.NoDigits) : ∀ {d : PyData} {v : V} {u : Value}, Dq X.K H v d → RelV v u → d.shown.length ≤ sizeLine → ∃ bs, ReadAtMost s.heap d.depth bs ∧ ReprK prog w bs s.heap d.depth u d.shown
  | _, _, _, .dp h ok, r, sz => by
    obtain ⟨as, q⟩ := Dp.reads I _ _ _ h r
    exact rep_of nd q ok sz
  | _, _, u, .one (a := a) (k := k) (n := n) e k1 n1, r, sz => by
    cases (show u = .ref _ from r)
    obtain ⟨as, rd⟩ := Dq.reads I (.one e k1 n1) (show RelV (.ref a) (.ref a) from rfl)
    obtain ⟨_, sys, _⟩ := dk_of I.hok e
    obtain ⟨o, es, ep, ho, hc, hdat, h4, h5⟩ : ∃ o es ep, s.heap.get? a = some o ∧ o.cls = .type "dict" ∧ o.data = .dict es ep ∧ ReadsAll s.heap (es.toList.map (·.key)) [.int k] [] ∧ ReadsAll s.heap (es.toList.map (·.val)) [.int n] [] := by
      cases rd with
      | dict h1 h2 h3 h4 h5 =>
        refine ⟨_, _, _, h1, h2, h3, ?_, ?_⟩
        · generalize hz : List.map _ _ = zs at h4
          cases h4 with
          | cons a1 a2 =>
            cases a1
            cases a2
            exact ReadsAll.cons (Reads.int _ _) ReadsAll.nil
        · generalize hz : List.map _ _ = zs at h5
          cases h5 with
          | cons a1 a2 =>
            cases a1
            cases a2
            exact ReadsAll.cons (Reads.int _ _) ReadsAll.nil
    have szd : (dictText (PyData.shownKv [(.int k, .int n)])).length ≤ sizeLine := by simpa only [PyData.shown] using sz
    obtain ⟨b1, f1, r1⟩ := rep_all (prog := prog) (w := w) nd h4 (by simp only [okAll, okD, decide_eq_true k1, Bool.and_self]) (fun t m => by
      obtain ⟨p, hp, hl⟩ := PyData.shownKv_key_le [(.int k, .int n)] t m
      exact Nat.le_trans hl (Nat.le_trans (dictText_mem_le hp) szd))
    obtain ⟨b2, f2, r2⟩ := rep_all (prog := prog) (w := w) nd h5 (by simp only [okAll, okD, decide_eq_true n1, Bool.and_self]) (fun t m => by
      obtain ⟨p, hp, hl⟩ := PyData.shownKv_val_le [(.int k, .int n)] t m
      exact Nat.le_trans hl (Nat.le_trans (dictText_mem_le hp) szd))
    have rd2 : Reads s.heap (.ref a) (.dict [(.int k, .int n)]) _ := .dict ho hc hdat h4 h5
    have out : a ∉ b1 ++ b2 := not_mem_of_deeper rd2 (by simp only [PyData.depth, PyData.depthKv, PyData.depthAll]; omega) ((f1.mono (m := 0) (by simp [PyData.depth, PyData.depthAll])).append (f2.mono (m := 0) (by simp [PyData.depth, PyData.depthAll])))
    refine ⟨a :: (b1 ++ b2), ReadAtMost.cons rd2 (Nat.le_refl _) ((f1.append f2).mono (by simp [PyData.depth, PyData.depthAll])), ?_⟩
    have ent := ReprEntriesK.of_two es.toList _ _ (r1.more_le (fun b m => List.mem_append_left b2 m) (Nat.le_refl _)) (r2.more_le (d' := PyData.depthAll [PyData.int k]) (fun b m => List.mem_append_right b1 m) (by simp [PyData.depth, PyData.depthAll]))
    have fin := ReprK.dict ho hc hdat sys out ent
    have e1 : PyData.depth (.dict [(.int k, .int n)]) = PyData.depthAll [PyData.int k] + 1 := by simp [PyData.depth, PyData.depthKv, PyData.depthAll]
    rw [e1]
    exact fin
  | _, _, u, .emp (a := a) e, r, sz => by
    cases (show u = .ref _ from r)
    obtain ⟨sys, o, ep, ho, hc, hd⟩ := emp_at I e
    have rd2 : Reads s.heap (.ref a) (.dict []) _ := .dict (as := []) (bs := []) (kvs := []) ho hc hd ReadsAll.nil ReadsAll.nil
    refine ⟨[a], ReadAtMost.cons rd2 (Nat.le_refl _) (fun _ z => nomatch z), ?_⟩
    have fin := ReprK.dict (prog := prog) (w := w) (as := []) (d := 0) (ps := []) ho hc hd sys (by simp) ReprEntriesK.nil
    have e1 : PyData.depth (.dict []) = 0 + 1 := by simp [PyData.depth, PyData.depthKv]
    rw [e1]
    exact fin
  | _, _, u, .lst (a := a) (xs := xs) (ds := ds) hs ha, r, sz => by
    cases (show u = .ref _ from r)
    obtain ⟨its, rv, ⟨o, n, ho, hc, _, hd⟩, _⟩ := I.list hs
    have sz2 : (listText (PyData.shownAll ds)).length ≤ sizeLine := by simpa only [PyData.shown] using sz
    obtain ⟨bs, few, all⟩ := Dq.repAll I nd ha rv (fun t m => Nat.le_trans (listText_mem_le m) sz2)
    obtain ⟨as, rr⟩ := Dq.readsAll I ha rv
    have rd : Reads s.heap (.ref a) (.list ds) _ := Reads.list ho hc hd rr
    have out : a ∉ bs := not_mem_of_deeper rd (by simp only [PyData.depth]; omega) few
    refine ⟨a :: bs, ReadAtMost.cons rd (by simp only [PyData.depth]; omega) few, ?_⟩
    simp only [PyData.depth, PyData.shown]
    cases its with
    | nil =>
      cases rr
      simp only [PyData.shownAll, listText_nil]
      exact .listEmpty ho hc hd
    | cons x l => exact .list ho hc hd out (by simpa using all.length_eq) (fun i y e => all.item i y (by simpa using e))
  | _, _, u, .tup (a := a) (xs := xs) (ds := ds) hs ha, r, sz => by
    cases (show u = .ref _ from r)
    obtain ⟨its, rv, ⟨o, ho, hc, n, hd⟩, _⟩ := I.tuple hs
    have sz2 : (tupleText (PyData.shownAll ds)).length ≤ sizeLine := by simpa only [PyData.shown] using sz
    obtain ⟨bs, few, all⟩ := Dq.repAll I nd ha rv (fun t m => Nat.le_trans (tupleText_mem_le m) sz2)
    obtain ⟨as, rr⟩ := Dq.readsAll I ha rv
    have rd : Reads s.heap (.ref a) (.tuple ds) _ := Reads.tuple ho hc hd rr
    have out : a ∉ bs := not_mem_of_deeper rd (by simp only [PyData.depth]; omega) few
    refine ⟨a :: bs, ReadAtMost.cons rd (by simp only [PyData.depth]; omega) few, ?_⟩
    simp only [PyData.depth, PyData.shown]
    exact .tuple ho hc hd out all
theorem Dq.repAll (I : Inv X pins σ H s) (nd : s.heap.NoDigits) : ∀ {ds : List PyData} {vs : List V} {us : List Value}, DqAll X.K H vs ds → Vals vs us → (∀ t ∈ PyData.shownAll ds, t.length ≤ sizeLine) →
    ∃ bs, ReadAtMost s.heap (PyData.depthAll ds) bs ∧ ReprAllK prog w bs s.heap (PyData.depthAll ds) us (PyData.shownAll ds)
  | _, _, _, .nil, .nil, _ => ⟨[], (fun _ z => nomatch z), by simp only [PyData.shownAll]; exact .nil⟩
  | _, _, _, .cons (d := d) (ds := ds) h1 h2, .cons r1 r2, sz => by
    obtain ⟨b1, f1, k1⟩ := Dq.rep I nd h1 r1 (sz _ (by simp only [PyData.shownAll]; exact List.mem_cons_self ..))
    obtain ⟨b2, f2, k2⟩ := Dq.repAll I nd h2 r2 (fun t m => sz t (by simp only [PyData.shownAll]; exact List.mem_cons_of_mem _ m))
    refine ⟨b1 ++ b2, (f1.mono (by simp only [PyData.depthAll]; omega)).append (f2.mono (by simp only [PyData.depthAll]; omega)), ?_⟩
    simp only [PyData.depthAll, PyData.shownAll]
    exact .cons ((k1.more fun b m => List.mem_append_left _ m).level_le (by omega)) (k2.more_le (fun b m => List.mem_append_right _ m) (by omega))
end
end
section
variable {X : Cx} {pins : List (Addr × Obj)} {σ : L2.St} {H : Hp} {s : Shared}
theorem repr_dq (I : Inv X pins σ H s) (nd : s.heap.NoDigits) {A : Around} {E : Value → Shared → Prop} {Q : Value → Shared → Prop} {a : Addr} {d : PyData} (h : Dq X.K H (.ref a) d) (sz : d.shown.length ≤ sizeLine) (hg : A.guards = some []) (hu : A.units + (d.depth + 3) < cLine)
    (hQ : ∀ h' u tk, (∀ b o, s.heap.get? b = some o → h'.get? b = some o) → Q (.str d.shown u) { s with heap := h', toks := tk }) : wpAny (model X.prog X.w) A (call (.builtin "repr") [.ref a]) Q E s := by
  cases h with
  | dp h ok =>
    obtain ⟨as, q⟩ := Dp.reads I _ _ _ h (show RelV (.ref a) (.ref a) from rfl)
    exact repr_any nd q ok sz hg hu hQ
  | one e k1 n1 =>
    rename_i k n
    obtain ⟨as, rd⟩ := Dq.reads I (.one e k1 n1) (show RelV (.ref a) (.ref a) from rfl)
    obtain ⟨_, sys, _⟩ := dk_of I.hok e
    obtain ⟨o, es, ep, ho, hc, hdat, h4, h5⟩ : ∃ o es ep, s.heap.get? a = some o ∧ o.cls = .type "dict" ∧ o.data = .dict es ep ∧ ReadsAll s.heap (es.toList.map (·.key)) [.int k] [] ∧ ReadsAll s.heap (es.toList.map (·.val)) [.int n] [] := by
      cases rd with
      | dict h1 h2 h3 h4 h5 =>
        refine ⟨_, _, _, h1, h2, h3, ?_, ?_⟩
        · generalize hz : List.map _ _ = zs at h4
          cases h4 with
          | cons a1 a2 =>
            cases a1
            cases a2
            exact ReadsAll.cons (Reads.int _ _) ReadsAll.nil
        · generalize hz : List.map _ _ = zs at h5
          cases h5 with
          | cons a1 a2 =>
            cases a1
            cases a2
            exact ReadsAll.cons (Reads.int _ _) ReadsAll.nil
    have szd : (dictText (PyData.shownKv [(.int k, .int n)])).length ≤ sizeLine := by simpa only [PyData.shown] using sz
    obtain ⟨b1, f1, r1⟩ := rep_all (prog := X.prog) (w := X.w) nd h4 (by simp only [okAll, okD, decide_eq_true k1, Bool.and_self]) (fun t m => by
      obtain ⟨p, hp, hl⟩ := PyData.shownKv_key_le [(.int k, .int n)] t m
      exact Nat.le_trans hl (Nat.le_trans (dictText_mem_le hp) szd))
    obtain ⟨b2, f2, r2⟩ := rep_all (prog := X.prog) (w := X.w) nd h5 (by simp only [okAll, okD, decide_eq_true n1, Bool.and_self]) (fun t m => by
      obtain ⟨p, hp, hl⟩ := PyData.shownKv_val_le [(.int k, .int n)] t m
      exact Nat.le_trans hl (Nat.le_trans (dictText_mem_le hp) szd))
    have rd2 : Reads s.heap (.ref a) (.dict [(.int k, .int n)]) _ := .dict ho hc hdat h4 h5
    have out : a ∉ b1 ++ b2 := not_mem_of_deeper rd2 (by simp only [PyData.depth, PyData.depthKv, PyData.depthAll]; omega) ((f1.mono (m := 0) (by simp [PyData.depth, PyData.depthAll])).append (f2.mono (m := 0) (by simp [PyData.depth, PyData.depthAll])))
    have ent := ReprEntriesK.of_two es.toList _ _ (r1.more_le (fun b m => List.mem_append_left b2 m) (Nat.le_refl _)) (r2.more_le (d' := PyData.depthAll [PyData.int k]) (fun b m => List.mem_append_right b1 m) (by simp [PyData.depth, PyData.depthAll]))
    have dz : PyData.depthAll [PyData.int k] = 0 := by simp [PyData.depth, PyData.depthAll]
    have ent : ReprEntriesK X.prog X.w (b1 ++ b2) s.heap (PyData.depthAll [PyData.int k]) es.toList [PyData.shown (.int k) ++ ": " ++ PyData.shown (.int n)] := by simp only [PyData.shownAll, List.zipWith] at ent; exact ent
    refine call_repr_slot (by omega) (T := "dict") (idr := "dict.__repr__") ⟨o, ho, hc⟩ F.slot_dict_repr ?_
    exact call_dict_reprK ho hc hdat sys out ent hg (fun b _ => Clear.nil b) (by show A.units + 1 + (PyData.depthAll [PyData.int k] + 1) < cLine; rw [dz]; omega) (fun _ _ e => e) (fun h' u tk hk => ⟨_, _, rfl, by have z := hQ h' u tk hk; simp only [PyData.shown, PyData.shownKv] at z; exact z⟩) (by simp only [PyData.shownKv] at szd; exact szd)
  | emp e =>
    obtain ⟨sys, o, ep, ho, hc, hd⟩ := emp_at I e
    refine call_repr_slot (by omega) (T := "dict") (idr := "dict.__repr__") ⟨o, ho, hc⟩ F.slot_dict_repr ?_
    exact call_dict_reprK (as := []) (d := 0) (ps := []) (prog := X.prog) (w := X.w) ho hc hd sys (by simp) ReprEntriesK.nil hg (fun b _ => Clear.nil b) (by show A.units + 1 + (0 + 1) < cLine; omega) (fun _ _ e => e) (fun h' u tk hk => ⟨_, _, rfl, by have z := hQ h' u tk hk; simp only [PyData.shown, PyData.shownKv] at z; exact z⟩) (by simpa only [PyData.shown, PyData.shownKv] using sz)
  | lst hs ha =>
    rename_i xs ds
    obtain ⟨its, rv, ⟨o, n, ho, hc, _, hd⟩, _⟩ := I.list hs
    have sz2 : (listText (PyData.shownAll ds)).length ≤ sizeLine := by simpa only [PyData.shown] using sz
    obtain ⟨bs, few, all⟩ := Dq.repAll (prog := X.prog) (w := X.w) I nd ha rv (fun t m => Nat.le_trans (listText_mem_le m) sz2)
    obtain ⟨as, rr⟩ := Dq.readsAll I ha rv
    have rd : Reads s.heap (.ref a) (.list ds) _ := Reads.list ho hc hd rr
    have out : a ∉ bs := not_mem_of_deeper rd (by simp only [PyData.depth]; omega) few
    simp only [PyData.depth] at hu
    simp only [PyData.shown] at hQ
    cases its with
    | nil =>
      cases rr
      exact repr_of_reads' (.list ho hc hd .nil) (by decide +kernel) (fun z => absurd z (by decide +kernel)) hg (by show A.units + 2 < cLine; omega) (fun _ _ e => e) (fun h' u tk hk => by simpa only [PyData.shown, PyData.shownAll] using hQ h' u tk hk) (by simpa only [PyData.shown] using sz2)
    | cons x l =>
      refine call_repr_slot (by omega) (T := "list") (idr := "list.__repr__") ⟨o, ho, hc⟩ F.slot_list_repr.toG ?_
      exact call_list_reprK ho hc hd out (by simpa using all.length_eq) (fun i y e => all.item i y (by simpa using e)) hg (fun b _ => Clear.nil b) (by show A.units + 1 + (PyData.depthAll ds + 1) < cLine; omega) (fun _ _ e => e) (fun h' u tk hk => ⟨_, _, rfl, hQ h' u tk hk⟩) sz2
  | tup hs ha =>
    rename_i xs ds
    obtain ⟨its, rv, ⟨o, ho, hc, n, hd⟩, _⟩ := I.tuple hs
    have sz2 : (tupleText (PyData.shownAll ds)).length ≤ sizeLine := by simpa only [PyData.shown] using sz
    obtain ⟨bs, few, all⟩ := Dq.repAll (prog := X.prog) (w := X.w) I nd ha rv (fun t m => Nat.le_trans (tupleText_mem_le m) sz2)
    obtain ⟨as, rr⟩ := Dq.readsAll I ha rv
    have rd : Reads s.heap (.ref a) (.tuple ds) _ := Reads.tuple ho hc hd rr
    have out : a ∉ bs := not_mem_of_deeper rd (by simp only [PyData.depth]; omega) few
    simp only [PyData.depth] at hu
    simp only [PyData.shown] at hQ
    refine call_repr_slot (by omega) (T := "tuple") (idr := "tuple.__repr__") ⟨o, ho, hc⟩ F.slot_tuple_repr ?_
    exact call_tuple_reprK ho hc hd out all hg (fun b _ => Clear.nil b) (by show A.units + 1 + (PyData.depthAll ds + 1) < cLine; omega) (fun _ _ e => e) (fun h' u tk hk => ⟨_, _, rfl, hQ h' u tk hk⟩) sz2
end
/-- repr(x), x an atom or data of any form -/
def rReprQ (K : PySem.W.Frag) : List V → Hp → VK → Prop := fun xs H Q => ∃ (x : V) (d : PyData), xs = [x] ∧ ((Dp K H x d ∧ d.showable = true ∧ d.hasDict = false) ∨ ∃ a, x = .ref a ∧ Dq K H x d) ∧ d.depth ≤ 20 ∧ d.shown.length ≤ sizeLine ∧ Q (.str d.shown) H
theorem call_reprQ {X : Cx} (dig : PySem.W.nsIn X.K cStatics "sys.int_max_str_digits" = some none) (hg : Gd X.A) (hu : X.A.units + 64 < cLine) : CallR X (.builtin "repr") (rReprQ X.K) := by
  intro pins s σ H xs us Q I r h
  obtain ⟨x, d, rfl, hd, dp, sz, q⟩ := h
  rcases hd with ⟨h1, h2, h3⟩ | ⟨a, rfl, hd⟩
  · exact call_repr hg hu pins s σ H [x] us Q I r ⟨x, d, rfl, h1, h2, h3, dp, sz, q⟩
  · obtain ⟨u, rfl, r1⟩ := vals1 r
    cases (show u = Value.ref a from r1)
    exact repr_dq I (big_base dig I) hd sz hg (by omega) (fun h' u tk hk => ⟨.str _, H, I.kept hk, ⟨_, rfl⟩, q⟩)
end GL
/-! small values of any kind whose repr is asked -/
namespace GL
open PySem PySem.Spec PyProof.Rows L2
theorem ofS_ok (s : String) : PyData.strOk (Str.ofString s) = true := by
  unfold PyData.strOk
  rw [Str.ofString_eq_toList]
  rw [Array.all_eq_true]
  intro i hi
  simp only [List.getElem_toArray, List.getElem_map, decide_eq_true_eq]
  have v := (s.toList[i]'(by simpa using hi)).valid
  generalize s.toList[i]'(by simpa using hi) = c at *
  rcases v with h | ⟨_, h⟩
  · exact Nat.lt_of_lt_of_le h (by decide)
  · exact h
theorem app_ok {x y : Str} (hx : PyData.strOk x = true) (hy : PyData.strOk y = true) : PyData.strOk (x ++ y) = true := by
  unfold PyData.strOk at *
  show Array.all (x.cps ++ y.cps) _ = true
  rw [Array.all_append, hx, hy]
  rfl
section
variable {K : PySem.W.Frag} {H H' : Hp}
theorem sqL_same {a : Addr} {xs : List V} (h : SqL K H a xs) (s : Same H H') : SqL K H' a xs := by
  rcases h with (z | ⟨o, z⟩) | z
  · exact .inl (.inl (s _ _ z))
  · exact .inl (.inr ⟨o, s _ _ z⟩)
  · exact .inr z
theorem sqT_same {a : Addr} {xs : List V} (h : SqT K H a xs) (s : Same H H') : SqT K H' a xs := by
  rcases h with (z | ⟨o, z⟩) | z
  · exact .inl (.inl (s _ _ z))
  · exact .inl (.inr ⟨o, s _ _ z⟩)
  · exact .inr z
mutual
theorem dp_same (s : Same H H') : ∀ {v : V} {d : PyData}, Dp K H v d → Dp K H' v d
  | _, _, .non => .non
  | _, _, .bl b => .bl b
  | _, _, .int i => .int i
  | _, _, .str x => .str x
  | _, _, .lst h a => .lst (sqL_same h s) (dps_same s a)
  | _, _, .tup h a => .tup (sqT_same h s) (dps_same s a)
theorem dps_same (s : Same H H') : ∀ {vs : List V} {ds : List PyData}, DpAll K H vs ds → DpAll K H' vs ds
  | _, _, .nil => .nil
  | _, _, .cons h a => .cons (dp_same s h) (dps_same s a)
end
mutual
theorem dq_same (s : Same H H') : ∀ {v : V} {d : PyData}, Dq K H v d → Dq K H' v d
  | _, _, .dp h ok => .dp (dp_same s h) ok
  | _, _, .one e a b => .one (s _ _ e) a b
  | _, _, .emp e => .emp (s _ _ e)
  | _, _, .lst h a => .lst (sqL_same h s) (dqs_same s a)
  | _, _, .tup h a => .tup (sqT_same h s) (dqs_same s a)
theorem dqs_same (s : Same H H') : ∀ {vs : List V} {ds : List PyData}, DqAll K H vs ds → DqAll K H' vs ds
  | _, _, .nil => .nil
  | _, _, .cons h a => .cons (dq_same s h) (dqs_same s a)
end
structure Val (K : PySem.W.Frag) (H : Hp) (v : V) (d : PyData) : Prop where
  dq : Dq K H v d
  rp : (Dp K H v d ∧ d.showable = true ∧ d.hasDict = false) ∨ ∃ a, v = .ref a ∧ Dq K H v d
  dep : d.depth ≤ 3
  ls : PyData.leavesShort 300 d = true
  bk : d.bulk ≤ 100
  so : PyData.strOk d.shown = true
theorem Val.same {v : V} {d : PyData} (h : Val K H v d) (s : Same H H') : Val K H' v d :=
  ⟨dq_same s h.dq, h.rp.imp (fun ⟨a, b, c⟩ => ⟨dp_same s a, b, c⟩) (fun ⟨a, b, c⟩ => ⟨a, b, dq_same s c⟩), h.dep, h.ls, h.bk, h.so⟩
theorem Val.len {v : V} {d : PyData} (h : Val K H v d) : d.shown.length ≤ 31000 := by
  have z := PyData.shown_le_bulk 300 (by decide) d h.ls
  have b := h.bk
  omega
theorem Val.lenS {v : V} {d : PyData} (h : Val K H v d) : d.shown.length ≤ sizeLine := Nat.le_trans h.len (by rw [sizeLine_eq]; decide)
theorem Val.flat {v : V} {d : PyData} (h : Dp K H v d) (ok : okD d = true) (sh : d.showable = true) (nd : d.hasDict = false) (dep : d.depth ≤ 3) (ls : PyData.leavesShort 300 d = true) (bk : d.bulk ≤ 100) (so : PyData.strOk d.shown = true) : Val K H v d := ⟨.dp h ok, .inl ⟨h, sh, nd⟩, dep, ls, bk, so⟩
theorem Val.int {n : Int} (h : n.natAbs < 10 ^ 40) : Val K H (.int n) (.int n) := by
  have z : n.natAbs.log2 < 1920 := Nat.lt_trans (PySem.Flt.log2_lt_of (k := 200) (by decide) (Nat.lt_of_lt_of_le h (by decide +kernel))) (by decide)
  refine .flat (.int n) (decide_eq_true (Nat.lt_of_lt_of_le h (by decide +kernel))) (decide_eq_true z) rfl (by simp [PyData.depth]) ?_ (by simp [PyData.bulk]) (ofS_ok _)
  · have e := int_text_length_le10 (a := n) (k := 40) (by decide) h
    refine decide_eq_true ?_
    show (Str.ofString (toString n)).length ≤ 300
    rw [PySem.ofString_length]
    exact Nat.le_trans e (by decide)
end
theorem pe_imp {X : Cx} {e : Expr} {t t' : TE} (h : PE X e t) (i : ∀ σ H Q, t' σ H Q → t σ H Q) : PE X e t' := ⟨fun pins s σ H Q I q => h.run pins s σ H Q I (i σ H Q q)⟩
theorem same_err {H : Hp} {e d : Addr} {o u : HO} (he : H e = none) (hd : H d = none) : Same H (upd (upd H d o) e u) := fun b w q => by rw [upd_ne (ne_of_none q he), upd_ne (ne_of_none q hd)]; exact q
theorem Same.tr {H H1 H2 : Hp} (a : Same H H1) (b : Same H1 H2) : Same H H2 := fun x o e => b x o (a x o e)
end GL
namespace GL
open PySem PySem.Spec PyProof.Rows L2 PySem.GLE
theorem err_mk {K : PySem.W.Frag} {h : Heap} {mg : Str → Option Value} {x f nm q qual : Str} {C fI N : Addr} {bs bm bB : List Value} {sn : List Str} {sub : List Value} {ab : Bool} {col : Option Bool} {dd od an : Option Addr} {k0 k1 k2 k3 k5 : Option Value} {B nwId inId : String}
    {oc doc pm cdv ct : Value} {osl : Array (Option Value)} {p1 p2 q1 q2 q3 q4 : Pos} (X : K.In h) (G : h.Ns mainGlobals mg) (F : ExcBaseFacts B nwId inId bB) (ch : Chain B bm)
    (f1 : (f == ("self" : Str)) = false) (f2 : (f == ("__debug__" : Str)) = false)
    (bd : ∀ (qual : Str) (p1 p2 q1 q2 q3 q4 : Pos) (doc pm : Value) (an : Option Addr) (cdv ct : Value) (a : Addr) (v : Value) (u : Unit), bindArgs (PySem.W.fnOf "__init__" qual (iArgs f p1 p2) (iBody f q1 q2 q3 q4) (iScope f) .none .none doc pm an cdv ct) ⟨[.ref a, v], []⟩ = pure [(PySem.Str.ofString "self", .ref a), (f, v)])
    (n : PySem.W.nsIn K mainGlobals x = some (some (.ref C))) (l : K.lookup C = some (excClassObj nm q C N bs bm true sn sub ab col dd k0 k1 k2 k3 k5 nwId))
    (iC : PySem.W.findIn K (.ref C) "__init__" = some (some (.ref fI))) (lf : K.lookup fI = some ⟨oc, od, .func (PySem.W.fnOf "__init__" qual (iArgs f p1 p2) (iBody f q1 q2 q3 q4) (iScope f) .none .none doc pm an cdv ct), osl⟩) (cd : PySem.W.codeIn K cdv qual = true)
    (sa : PySem.W.findIn K (.ref C) "__setattr__" = some (some (.builtin "object.__setattr__"))) (ga : PySem.W.findIn K (.ref C) "__getattribute__" = some (some (.builtin "BaseException.__getattribute__"))) (gg : PySem.W.findIn K (.ref C) "__getattr__" = some none)
    (no : PySem.W.findIn K (.ref C) f = some none) (tC : PySem.W.typeIn K (.ref fI) = some (.type "function")) (kC : PySem.W.keepIn K (.ref C) = true) (exC : PySem.W.subIn K (.ref C) (.type "BaseException") = some true) (tyC : PySem.W.typeIn K (.ref C) = some (.type "type"))
    (hdC : PySem.W.hasDictIn K C = true) : ErrTxt K mg x f C fI :=
  { gC := PySem.W.mg_of X G n, cls := ⟨nm, q, N, bs, bm, sn, sub, ab, col, dd, k0, k1, k2, k3, k5, B, nwId, inId, bB, F, ch, l⟩, sa := sa, ga := ga, gg := gg, noN := no, iC := iC, tC := tC, kC := kC, exC := exC, tyC := tyC, hdC := hdC, f1 := f1, f2 := f2, bd := bd,
    fn := ⟨_, _, qual, _, _, _, _, _, _, _, _, _, _, _, _, lf, cd⟩ }
end GL
/-! the end of a law whose defs make lambdas: their tables of code objects -/
namespace GL
open PySem PySem.Spec PyProof.Rows L2 LamX
/-- law_call with tables: cs, the code objects and their tables -/
theorem law_tabs {P : Program} {w : World} {K : PySem.W.Frag} {mg mb : Str → Option Value} {CX : CXT} {k : Nat} {fa a : Addr} {cs : List (Addr × Addr)} {fd : FuncData} {x : Str} {sp : Sp} {sA : Shared} {vs : List Value} {ns : List Int}
    (inK : K.In sA.heap) (nsG : sA.heap.Ns mainGlobals mg) (hb : sA.heap.Ns builtinsNs mb) (bIs : ∀ x : Str, x ≠ "__name__" → mb x = bootBuiltins x) (lim : sA.heap.NoLimit) (hg : sA.gens = #[])
    (hT : ∀ p ∈ cs, sA.heap.get? p.2 = some { cls := .none, data := .fields #[] }) (tFree : ∀ p ∈ cs, K.lookup p.2 = none) (C : ∀ p ∈ cs, PySem.W.CodeHd sA.heap p.1 p.2)
    (modB : ∃ (bm : Addr) (ob : Obj), mg "__builtins__" = some (.ref bm) ∧ bm ≠ builtinsNs ∧ sA.heap.get? bm = some ob ∧ ob.cls = .type "module" ∧ ob.dict = some builtinsNs ∧ ob.data = .plain)
    (ha : sA.heap.get? a = some { cls := .type "list", data := .seq vs.toArray }) (hi : IntsAre vs ns) (hl : ns.length ≤ sizeLine) (hr : Room k callerA)
    (F : ∀ base : Heap, K.In base → base.Ns mainGlobals mg → (∀ p ∈ cs, TabB base mg p.1 p.2) → FnG P w K mg base CX k fa fd [x] sp) (hbind : ∀ (s : Shared) (u : Value), BindsTo s fd ⟨[u], []⟩ [(x, u)])
    (hsp : ∀ H : Hp, (∀ p ∈ cs, H p.2 = some (.tbl #[])) → SqL K H a (ns.map V.int) → sp [.ref a] H (fun v _ => v = .bl true) fun _ _ _ => False)
    (never : ∀ H e s', CX [] H sA (fun _ _ _ => False) e s' → False) :
    codeAny (model P w) callerA (.call (.ref fa) ⟨[.ref a], []⟩) (fun r s' => r = .ok (.ret (.bool true)) ∧ OldK sA.heap s'.heap ∧ s'.os = sA.os ∧ AllBare s'.gens) sA := by
  have relV := vals_ints hi
  have lenE := hi.length
  have tIs : ∀ b : Addr, b ∈ cs.map (·.2) → sA.heap.get? b = some { cls := .none, data := .fields #[] } := fun b hb => by
    obtain ⟨p, hp, e⟩ := List.mem_map.mp hb
    rw [← e]
    exact hT p hp
  have aOut : a ∉ cs.map (·.2) := fun z => by
    have q := tIs a z
    rw [ha] at q
    have z' : Data.seq vs.toArray _ = Data.fields #[] := congrArg Obj.data (Option.some.inj q)
    cases z'
  have tMem : ∀ p ∈ cs, p.2 ∈ cs.map (·.2) := fun p hp => List.mem_map.mpr ⟨p, hp, rfl⟩
  -- from an abstract heap in which nothing but the script and the tables may be tracked
  have heart : ∀ H : Hp, (∀ p ∈ cs, H p.2 = some (.tbl #[])) → (∀ b, H b = none ∨ b ∈ cs.map (·.2) ∨ ∃ o xs, H b = some (.frz o (.lst xs))) → SqL K H a (ns.map V.int) → HOk P w H sA.heap → (∀ b, H b ≠ none → b = a ∨ b ∈ cs.map (·.2)) → (H a ≠ none → K.lookup a = none) →
      codeAny (model P w) callerA (.call (.ref fa) ⟨[.ref a], []⟩) (fun r s' => r = .ok (.ret (.bool true)) ∧ OldK sA.heap s'.heap ∧ s'.os = sA.os ∧ AllBare s'.gens) sA := by
    intro H hH onlyH seqH okH atH noK
    have toB : ∀ {b : Addr} {o : Obj}, sA.heap.get? b = some o → H b = none → (hidT sA.heap H).get? b = some o := fun e n => hidT_get e n
    have noneD : ∀ {b : Addr} {o : Obj}, sA.heap.get? b = some o → (∀ vs n, o.data ≠ .seq vs n) → o.data ≠ .fields #[] → H b = none := fun {b o} e h1 h2 => by
      cases q : H b with
      | none => rfl
      | some u =>
        rcases atH b (by rw [q]; simp) with e' | e'
        · rw [e', ha] at e
          cases e
          exact (h1 _ _ rfl).elim
        · rw [tIs b e'] at e
          cases e
          exact (h2 rfl).elim
    have noneDict : ∀ {b : Addr} {o : Obj} {es : Array DictEntry} {ep : Nat}, sA.heap.get? b = some o → o.data = .dict es ep → H b = none := fun {b o es ep} e d => by
      refine noneD e (fun vs n z => ?_) fun z => ?_
      · rw [d] at z
        cases z
      · rw [d] at z
        cases z
    have keepNs : ∀ {b : Addr} {m : Str → Option Value}, sA.heap.Ns b m → (hidT sA.heap H).Ns b m := fun {b m} ⟨o, es, ep, e, d, r⟩ => ⟨o, es, ep, toB e (noneDict e d), d, r⟩
    have inKB : K.In (hidT sA.heap H) := fun b o e => toB (inK b o e) (by
      cases q : H b with
      | none => rfl
      | some u =>
        rcases atH b (by rw [q]; simp) with e' | e'
        · rw [e'] at e q
          rw [noK (by rw [q]; simp)] at e
          cases e
        · obtain ⟨p, hp, ep⟩ := List.mem_map.mp e'
          rw [← ep, tFree p hp] at e
          cases e)
    have modu : L2.Mod K mg (hidT sA.heap H) := ⟨inKB, keepNs nsG, ⟨mb, keepNs hb, bIs⟩, let ⟨mc, h1, h2⟩ := lim; ⟨mc, keepNs h1, h2⟩⟩
    have tabB : ∀ p ∈ cs, TabB (hidT sA.heap H) mg p.1 p.2 := fun p hp => by
      have tAt := hT p hp
      refine ⟨?_, ?_, fun z => ?_⟩
      · obtain ⟨o, us, file, tf, flags, tg, inF, text, tt, e1, r1, r2, r3, r4, r5, r6, r7, r8, hne⟩ := C p hp
        refine ⟨o, us, file, tf, flags, tg, inF, text, tt, toB e1 (noneD e1 (fun vs n z => ?_) fun z => ?_), r1, r2, r3, r4, r5, r6, r7, r8, hne⟩
        · rw [r2] at z
          cases z
        · rw [r2] at z
          cases z
          simp at r3
      · obtain ⟨bm, ob, b1, b2, b3, b4, b5, b6⟩ := modB
        have nG : bm ≠ mainGlobals := fun q => by
          obtain ⟨o, es, ep, e, hd, _⟩ := nsG
          rw [q, e] at b3
          cases b3
          rw [hd] at b6
          cases b6
        have nP : bm ≠ p.2 := fun q => by
          rw [q, tAt] at b3
          cases b3
          cases b6
        refine ⟨bm, ob, b1, b2, nG, nP, toB b3 (noneD b3 (fun vs n z => ?_) fun z => ?_), b4, b5, b6⟩
        · rw [b6] at z
          cases z
        · rw [b6] at z
          cases z
      · obtain ⟨o, es, ep, e, hd, _⟩ := nsG
        rw [z, tAt] at e
        cases e
        cases hd
    have env0 : Env0 P w K mg (hidT sA.heap H) callerA [] sA H := ⟨rfl, modu, fun b o e => of_hidT e, Nat.le_of_eq (hidT_size _ _), trivial, fun b hb => absurd (show b ∈ ([] : List Addr) from hb) (by simp), okH, .of_eq hg⟩
    refine codeAny_mono ((F _ inKB (keepNs nsG) tabB).go (A := callerA) (outer := []) (s := sA) (args := ⟨[.ref a], []⟩) (us := [.ref a]) (vs := [.ref a]) rfl hr env0 (hbind sA (.ref a)) (.cons rfl .nil) (hsp H hH seqH)) fun r s' h => ?_
    cases r with
    | error e => exact (never H e s' h).elim
    | ok fl =>
      cases fl with
      | next => exact False.elim h
      | brk => exact False.elim h
      | cont => exact False.elim h
      | ret u =>
        obtain ⟨v, H', ost, bar, unc, okH', r', q⟩ := h
        have q' : v = .bl true := q
        subst q'
        obtain rfl : u = Value.bool true := r'
        have same_ : ∀ b o, b ∉ cs.map (·.2) → sA.heap.get? b = some o → s'.heap.get? b = some o := fun b o nb e => by
          cases q : H b with
          | none => exact unc.keep b o e q (by intro z; exact absurd (show b ∈ ([] : List Addr) from z) (by simp)) (by simp)
          | some u =>
            rcases onlyH b with z | z | ⟨ob, xs, z⟩
            · rw [q] at z; cases z
            · exact absurd z nb
            · have z2 := unc.frzs b ob _ z
              obtain ⟨e1, _⟩ := okH b _ z
              obtain ⟨e2, _⟩ := okH' b _ z2
              rw [e] at e1; cases e1
              exact e2
        have grew : ∀ p ∈ cs, ∃ more : Array Value, s'.heap.get? p.2 = some { cls := .none, data := .fields more } := fun p hp => by
          obtain ⟨more, z⟩ := unc.tbls p.2 #[] (hH p hp)
          exact ⟨_, okH' p.2 _ z⟩
        refine ⟨rfl, ⟨fun b o e => ?_, fun b o e => ?_⟩, ost, bar⟩
        · by_cases hb : b ∈ cs.map (·.2)
          · obtain ⟨p, hp, ep⟩ := List.mem_map.mp hb
            obtain ⟨more, hm⟩ := grew p hp
            rw [← ep] at e ⊢
            rw [hT p hp] at e
            cases e
            exact .inr (.inl ⟨((C p hp).tab (hT p hp)).isCodeTable, rfl, #[], more, rfl, by rw [Array.empty_append]; exact hm⟩)
          · exact .inl (same_ b o hb e)
        · by_cases hb : b ∈ cs.map (·.2)
          · obtain ⟨p, hp, ep⟩ := List.mem_map.mp hb
            obtain ⟨more, hm⟩ := grew p hp
            rw [← ep]
            exact ⟨_, hm⟩
          · exact ⟨o, same_ b o hb e⟩
  cases hk : K.lookup a with
  | some o =>
    have e := inK a o hk
    rw [ha] at e
    cases e
    refine heart (fun b => if b ∈ cs.map (·.2) then some (.tbl #[]) else none) (fun p hp => if_pos (tMem p hp)) (fun b => ?_) (.inr ⟨_, vs.toArray, _, hk, rfl, rfl, rfl, by rw [List.size_toArray, lenE]; exact hl, by simpa using relV⟩) (fun b u z => ?_) (fun b z => ?_) fun z => absurd (show (if a ∈ cs.map (·.2) then some (HO.tbl #[]) else none) = none from if_neg aOut) z
    · by_cases hb : b ∈ cs.map (·.2)
      · exact .inr (.inl hb)
      · exact .inl (if_neg hb)
    · by_cases hb : b ∈ cs.map (·.2)
      · have z' := (if_pos hb).symm.trans z
        cases z'
        exact tIs b hb
      · have z' := (if_neg hb).symm.trans z
        cases z'
    · by_cases hb : b ∈ cs.map (·.2)
      · exact .inr hb
      · exact absurd (if_neg hb) z
  | none =>
    refine heart (fun b => if b = a then some (.frz { cls := .type "list", data := .seq vs.toArray } (.lst (ns.map V.int))) else if b ∈ cs.map (·.2) then some (.tbl #[]) else none) (fun p hp => (if_neg (show ¬ p.2 = a from fun z => aOut (by rw [← z]; exact tMem p hp))).trans (if_pos (tMem p hp))) (fun b => ?_)
      (.inl (.inr ⟨{ cls := .type "list", data := .seq vs.toArray }, if_pos rfl⟩)) (fun b u z => ?_) (fun b z => ?_) fun _ => hk
    · by_cases hb : b = a
      · exact .inr (.inr ⟨_, _, if_pos hb⟩)
      · by_cases hb2 : b ∈ cs.map (·.2)
        · exact .inr (.inl hb2)
        · exact .inl ((if_neg hb).trans (if_neg hb2))
    · by_cases hb : b = a
      · have z' := (if_pos hb).symm.trans z
        cases z'
        rw [hb]
        exact ⟨ha, by rw [List.length_map]; exact hl, vs, _, relV, ha⟩
      · have z1 := (if_neg hb).symm.trans z
        by_cases hb2 : b ∈ cs.map (·.2)
        · have z' := (if_pos hb2).symm.trans z1
          cases z'
          exact tIs b hb2
        · have z' := (if_neg hb2).symm.trans z1
          cases z'
    · by_cases hb : b = a
      · exact .inl hb
      · by_cases hb2 : b ∈ cs.map (·.2)
        · exact .inr hb2
        · exact absurd ((if_neg hb).trans (if_neg hb2)) z
/-- what is known of the law's promise at the head's heap h -/
def LawTab (l : PySem.W.OpenLaw) (w : World) (K : PySem.W.Frag) (CX : CXT) (k n : Nat) (x : Str) (mg : Str → Option Value) (fa : Addr) (h : Heap) : Prop :=
  ∃ (fd : FuncData) (cs : List (Addr × Addr)) (sp : Sp), (∀ p ∈ cs, h.get? p.2 = some { cls := .none, data := .fields #[] }) ∧ (∀ p ∈ cs, K.lookup p.2 = none) ∧ (∀ p ∈ cs, PySem.W.CodeHd h p.1 p.2) ∧ (∀ (s : Shared) (u : Value), BindsTo s fd ⟨[u], []⟩ [(x, u)]) ∧
    (∀ (H : Hp) (a : Addr) (ns : List Int), ns.length ≤ n → (∀ z ∈ ns, Builtin.Int.intBits z ≤ 1048576) → (∀ p ∈ cs, H p.2 = some (.tbl #[])) → SqL K H a (ns.map V.int) → sp [.ref a] H (fun v _ => v = .bl true) fun _ _ _ => False) ∧
    ∀ base : Heap, K.In base → base.Ns mainGlobals mg → (∀ p ∈ cs, TabB base mg p.1 p.2) → FnG l.prog w K mg base CX k fa fd [x] sp
theorem walk_tabs {l : PySem.W.OpenLaw} {n k : Nat} {q : Program} {loose : List Str} {XP : (Str → Option Value) → Heap → Prop} {YP : World → Heap → Prop} {d : DefRec} {K : Params → PySem.W.Frag} {CX : World → CXT} {x : Str}
    (hn : l.most = some n) (hn2 : n ≤ sizeLine) (hdf : d.params.defaults = []) (hr : Room k callerA) (hY : ∀ (w : World) (h : Heap), YP w h → (K w.params).In h)
    (F : ∀ (w : World) (mg : Str → Option Value) (fa : Addr) (h : Heap), YP w h → (K w.params).In h → h.Ns mainGlobals mg → mg d.name = some (.ref fa) → LawTab l w (K w.params) (CX w) k n x mg fa h)
    (never : ∀ (w : World) (H : Hp) (s : Shared) (e : Value) (s' : Shared), CX w [] H s (fun _ _ _ => False) e s' → False) :
    PySem.W.WalkO q loose XP YP l.row.toRowW d [] (fun f vs => PySem.call f vs) := by
  refine Att.attach_callB hn hdf fun w sB sA mg mb fa o pm cd doc a vs ns G Y ho hd hcd hmg hobj hints hlen hbits hg => ?_
  have inK := hY w _ Y
  obtain ⟨fd, cs, sp, hT, tFree, C, hb, hsp, hF⟩ := F w mg fa _ Y inK G.T.g hmg
  exact law_tabs inK G.T.g G.T.b G.T.builtins G.T.nolimit hg hT tFree C G.T.bmain hobj hints (Nat.le_trans hlen hn2) hr hF hb (fun H hH seqH => hsp H a ns hlen hbits hH seqH) fun H e s' => never w H sA e s'
end GL
/-! a lambda handed to a def, where repr may be asked -/
namespace GL
open PySem PySem.Spec PyProof.Rows L2 LamX
section
variable {X : Cx} {pins : List (Addr × Obj)} {σ : L2.St} {H HZ : Hp} {s s1 : Shared}
/-- x(), in the def that got the lambda: Z is that def's context, entered at s -/
theorem lam_act {CXg : CXT} {Eg : XK} {Ng : List Str} {qg : Str} {sg : Scope} {g f c' : Addr} {cdg pm ctv : Value} {params : Arguments} {body : Expr} {scope : Scope} {k i : Nat} {a : Str} {pn : List (Addr × Obj)} {xe : Value → Shared → Prop} {W : WX} {E : XK} {tb : TE} {p1 p2 : Pos}
    (I : Inv X pins σ H s) (L : LamS X.env.scope scope) (objF : s.heap.get? f = some (PySem.W.kla_obj "<lambda>" (X.env.qual ++ "<lambda>") params body scope (cloFrom X.env.cells scope.names []) pm c' ctv)) (noF : H f = none) (outF : f ∉ frs X.stack)
    (bindN : bindArgs (PySem.W.kla_fn "<lambda>" (X.env.qual ++ "<lambda>") params body scope (cloFrom X.env.cells scope.names []) pm (.ref c') ctv) ⟨[], []⟩ = pure [])
    (tak : Takes ((cxOf CXg X.prog X.w X.K X.mg X.base Ng qg sg g cdg X.A X.stack s H Eg).tr pn xe) W) (toW : ∀ cls d σ' H', E cls d H' → W cls d σ' H') (hr : Room (k + 1) (X.A.deeper (envOfC qg sg s.heap.objs.size g cdg)))
    (gd : Gd X.A) (inBody : ∀ (A : Around) (outer : List Env) (s : Shared) (H : Hp), Gd (A.deeper (lamEnv X scope s.heap.objs.size f c')) → Room k (A.deeper (lamEnv X scope s.heap.objs.size f c')) → PE (lamCx X A outer s H E scope f c') body tb)
    (atN : Ng[i]? = some a) (visA : Vis sg a) (dbgA : (a == ("__debug__" : Str)) = false := by decide) (cdA : (a == ("__classdict__" : Str)) = false := by decide) :
    PE ((cxOf CXg X.prog X.w X.K X.mg X.base Ng qg sg g cdg X.A X.stack s H Eg).tr pn xe) (.Call (.Name a p1) [] [] p2)
      (fun σZ HZ Q => σZ[i]? = some (some (.ref f)) ∧ HZ c' = some (CodeO c' (X.env.qual ++ "<lambda>")) ∧ tb σ HZ Q) := by
  refine ⟨fun pinsZ sZ σZ HZ Q Iz h => ?_⟩
  obtain ⟨slotF, codeF, body_⟩ := h
  refine wpAny_Call_Name_kw (thn ((pe_var (pos := p1) (i := i) atN visA dbgA cdA).run pinsZ sZ σZ HZ (fun v H1 => v = .ref f ∧ H1 = HZ) Iz ⟨.ref f, slotF, rfl, rfl⟩) fun u s1 ⟨v, H1, Iy, r1, q1⟩ => ?_)
  obtain ⟨ev, eH⟩ := q1
  subst ev
  rw [eH] at Iy
  obtain rfl : u = Value.ref f := r1
  have objF1 : s1.heap.get? f = some (PySem.W.kla_obj "<lambda>" (X.env.qual ++ "<lambda>") params body scope (cloFrom X.env.cells scope.names []) pm c' ctv) := Iy.base.keep f _ objF noF outF (fun z => nomatch (show f ∈ ([] : List Addr) from z))
  refine PySem.W.callWith_F0 ⟨_, _, _, _, objF1⟩ ?_
  have unZ : Un (frs X.stack) [] H HZ s.heap s1.heap := Iy.base
  obtain ⟨⟨oc, vs, t, ocC, dataC, nameC⟩, _, _⟩ := Iy.hok c' _ codeF
  have runs : codeAny (model X.prog X.w) (X.A.deeper (envOfC qg sg s.heap.objs.size g cdg)) (.call (.ref f) ⟨[], []⟩) (CR (L2.CX X.prog X.w) (envOfC qg sg s.heap.objs.size g cdg :: X.stack) X.prog X.w HZ s1 Q E) s1 := by
    refine PySem.W.kla_callFunE hr.depth objF1 rfl L.co L.gen rfl ⟨c', oc, vs, t, rfl, ocC, dataC, nameC⟩ ?_
    rw [bindN]
    refine wpAny_pure (wpAny_newFunctionEnv (fun y hy => (L.own y hy).2) (fun y hy => absurd hy (by simp)) (fun h₁ nsL butL => ⟨Iy.nolimit.fresh _ butL, ?_⟩) L.kind)
    show codeAny _ _ (.expr body (lamEnv X scope s1.heap.objs.size f c')) _ _
    have old : ∀ b o, s1.heap.get? b = some o → h₁.get? b = some o := fun b o e => butL.extBut b o (Nat.ne_of_lt (Heap.lt_size e)) (Heap.get?_push_of_some _ e)
    have Jn : Inv (lamCx X (X.A.deeper (envOfC qg sg s.heap.objs.size g cdg)) (envOfC qg sg s.heap.objs.size g cdg :: X.stack) s1 HZ E scope f c') [] σ HZ { s1 with heap := h₁, toks := s1.toks + ([] : List (Str × Value)).length } :=
      lam_start2 I L Iy.env0 hr.hd unZ nsL old
    refine PySem.W.kla_codeExpr (wpAny_mono ((inBody (X.A.deeper (envOfC qg sg s.heap.objs.size g cdg)) _ s1 HZ gd (hr.deeper _)).run [] _ _ HZ Q Jn body_) (fun v s' res => ?_) fun e s' res => res)
    obtain ⟨w', H', J', rv, q⟩ := res
    exact ⟨w', H', J'.os, J'.bare, J'.base, J'.hok, rv, q⟩
  have outs : Passes (L2.CX X.prog X.w) ((cxOf CXg X.prog X.w X.K X.mg X.base Ng qg sg g cdg X.A X.stack s H Eg).tr pn xe) E := passes_call tak toW
  refine wpAny_call (codeAny_mono runs fun r s' res => ?_)
  cases r with
  | error e => exact outs pinsZ σZ HZ s1 e s' Iy res
  | ok fl =>
    cases fl with
    | ret u => exact Iy.after res
    | next => exact False.elim res
    | brk => exact False.elim res
    | cont => exact False.elim res
end
section
variable {X : Cx}
/-- x(lambda: body) -/
theorem pe_lam {T : List (Addr × Str)} {TT : (XK → Hp → VK → Prop) → Hp → VK → Prop} {x a : Str} {g c P : Addr} {k : Nat} {pg : Arguments} {bg : List Stmt} {sg : Scope} {dV kV doc pm cdv ct oc : Value} {an od : Option Addr} {osl : Array (Option Value)} {Ng : List Str}
    {params : Arguments} {body : Expr} {scope : Scope} {t : XK → TE} {p lpos pos : Pos} (glX : Gl X x) (mgX : X.mg x = some (.ref g)) (keepX : PySem.W.keepIn X.K (.ref g) = true)
    (objG : X.K.lookup g = some ⟨oc, od, .func (PySem.W.fnOf x x pg bg sg dV kV doc pm an cdv ct), osl⟩) (codeG : PySem.W.codeIn X.K cdv x = true) (bindsG : L2.Binds X.K (PySem.W.fnOf x x pg bg sg dV kV doc pm an cdv ct) [a] []) (Sg : FnScope Ng [a] sg) (atNg : Ng[0]? = some a) (visNg : Vis sg a)
    (gives : GivesTo X Ng x sg g cdv bg a (X.env.qual ++ "<lambda>") TT)
    (TB : TabB X.base X.mg c P) (codeX : X.env.code = .ref c) (inT : (P, X.env.qual ++ "<lambda>") ∈ T) (oneT : ∀ p ∈ T, p.1 = P → p.2 = X.env.qual ++ "<lambda>") (hr : Room (k + 2) X.A) (L : LamS X.env.scope scope) (noDef : defaultsOf params X.env = ([], []))
    (bindN : ∀ (q : Str) (cl : List (Str × Addr)) (pm cv ctv : Value), bindArgs (PySem.W.kla_fn "<lambda>" q params body scope cl pm cv ctv) ⟨[], []⟩ = pure [])
    (gd : Gd X.A) (inBody : ∀ (A : Around) (outer : List Env) (s : Shared) (H : Hp) (E : XK) (f c' : Addr), Gd (A.deeper (lamEnv X scope s.heap.objs.size f c')) → Room k (A.deeper (lamEnv X scope s.heap.objs.size f c')) → PE (lamCx X A outer s H E scope f c') body (t E))
    (hdb : (x == ("__debug__" : Str)) = false := by decide) (dbgA : (a == ("__debug__" : Str)) = false := by decide) (cdA : (a == ("__classdict__" : Str)) = false := by decide) :
    PE X (.Call (.Name x p) [.Lambda params body scope lpos] [] pos) (tLam T TT t) := by
  refine ⟨fun pins s σ H Q I h => ?_⟩
  obtain ⟨tabs, h⟩ := h
  refine wpAny_Call_Name_kw (ld_glob I glX mgX ?_ hdb)
  refine PySem.W.callWith_K (h₀ := X.base) I.ok.mod.kin keepX ?_ (by rfl) (by rfl)
  show wpAny _ _ (spliced ((false, eval (.Lambda params body scope lpos) X.env) :: backTo pos (starEach [] X.env))) _ _ s
  refine Calls.spliced_cons (lam_make2 I TB codeX inT oneT tabs noDef (L.has I.ok) fun f c' pm' ctv H1 s' Iy ext tabs1 objF noF outF codeAt => ?_)
  refine Calls.spliced_nil ⟨Iy.kIn, ?_⟩
  have runs : codeAny (model X.prog X.w) X.A (.call (.ref g) ⟨[.ref f], []⟩) (CR C8.CX0 X.stack X.prog X.w H1 s' Q C8.E0) s' := by
    refine run_ofS (N := Ng) (ps := [a]) (us := [.ref f]) (vs := [.ref f]) objG codeG Sg hr Iy.env0 (bindsG s' [.ref f] Iy.kIn rfl) (.cons rfl .nil) rfl fun hr' => ?_
    obtain ⟨t', ht', hq'⟩ := gives f c' s' H1 Q (fun E H' Q' => t E σ H' Q') (fun W pn xe E p1 p2 tak toW => lam_act (i := 0) Iy L objF noF outF (bindN _ _ _ _ _) tak toW hr' gd (fun A outer s H gd2 hr2 => inBody A outer s H E f c' gd2 hr2) atNg visNg dbgA cdA) codeAt (h H1 ext tabs1)
    exact ⟨t', ht'.nox, hq'⟩
  refine wpAny_call (codeAny_mono runs fun r s2 res => ?_)
  cases r with
  | error e => exact (show False from res).elim
  | ok fl =>
    cases fl with
    | ret u => exact Iy.after res
    | next => exact False.elim res
    | brk => exact False.elim res
    | cont => exact False.elim res
end
end GL
/-! an own operator with a right operand of a built-in type -/
namespace GL
open PySem PySem.Spec PyProof.Rows L2
section
variable {prog : Program} {w : World} {A : Around} {E : Value → Shared → Prop} {s : Shared} {K : PySem.W.Frag} {x C L f : Addr} {h₀ : Heap} {m : Str → Option Value} {ox : Obj} {od : Option Obj} {b : Value}
/-- what the type T says to an operator -/
structure TyOp (T nm : String) (tf : Bool) : Prop where
  fills : fillsNumberSlot (.type T) nm = pure tf
  py : tf = true → ∃ p y, numberSlotInPython (.type T) nm = pure p ∧ typeLookup (.type T) (dunderR nm) = pure y
open PySem.W PySem.Calls Builtin in
theorem bin_type {op : Operator} {T : String} {tf : Bool} {Q : Value → Shared → Prop} (F : Fr h₀ L s.heap m) (X₀ : K.In h₀) (I : InstAt s.heap x ox C od) (hb : Looks (model prog w) s.heap (typeOf b) (.type T)) (tyT : TyOp T op.info.2 tf) (sT : isSubtype (.type T) (.ref C) = pure false)
    (cC : BinC K C op.info.2) (hs : findIn K (.ref C) (PySem.dunder op.info.2) = some (some (.ref f))) (hf : isFn K (.ref f) = true)
    (h : wpAny (model prog w) A (call (.ref f) [.ref x, b]) (PySem.W.CmpBack Q) E s) : wpAny (model prog w) A (binaryOp op (.ref x) b) Q E s := by
  have X := X₀.keeps F.keep
  obtain ⟨cd, rest, hcd, hm⟩ := ksp_first cC.first
  have hrC := cC.refl
  rcases hi : op.info with ⟨sym, nm'⟩
  rw [hi] at hs hrC tyT
  dsimp only at hs hrC tyT
  have one := ksp_try X I hs hf h
  obtain ⟨hh, g, d, tt, os⟩ := s
  have M1 : Looks (model prog w) hh (typeOf (.ref x)) (.ref C) := I.type
  have M2 : Looks (model prog w) hh (typeOf b) (.type T) := hb
  have M3 : Looks (model prog w) hh (fillsNumberSlot (.ref C) nm') true := fills_K X hcd hm hs
  have e4 := tyT.fills
  have M6 : Looks (model prog w) hh (numberSlotInPython (.ref C) nm') true := ksp_inPy X hs hrC (.inl rfl)
  have hne : (Value.ref C == Value.type T) = false := rfl
  simp only [binaryOp, hi]
  refine wpAny_holding (wpAny_bind ?_)
  unfold binaryOp1
  refine wpAny_bind (M1.at (wpAny_bind (M2.at (wpAny_bind (M3.at ?_)))))
  simp only [hne, Bool.false_eq_true, if_false, e4, sT]
  cases tf with
  | false =>
    ksp_lk
    refine wpAny_mono one (fun r s' hr' => ?_) fun _ _ e => e
    obtain ⟨v, rfl, hq⟩ := hr'
    ksp_lk
    exact hq
  | true =>
    obtain ⟨p, y, e7, e8⟩ := tyT.py rfl
    simp only [e7, e8]
    cases p <;>
    · ksp_lk
      refine wpAny_mono one (fun r s' hr' => ?_) fun _ _ e => e
      obtain ⟨v, rfl, hq⟩ := hr'
      ksp_lk
      exact hq
end
theorem tyop_no (T : String) (h : T = "NoneType" ∨ T = "str" ∨ T = "tuple" ∨ T = "list" ∨ T = "dict") : ∀ nm ∈ ["add", "sub", "mul", "floordiv"], TyOp T nm false := by
  intro nm m
  simp only [List.mem_cons, List.not_mem_nil, or_false] at m
  rcases h with h | h | h | h | h <;> subst h <;> rcases m with m | m | m | m <;> subst m <;> exact ⟨by kernel_rfl, fun z => nomatch z⟩
theorem tyop_yes (T : String) (h : T = "int" ∨ T = "bool") : ∀ nm ∈ ["add", "sub", "mul", "floordiv"], TyOp T nm true := by
  intro nm m
  simp only [List.mem_cons, List.not_mem_nil, or_false] at m
  rcases h with h | h <;> subst h <;> rcases m with m | m | m | m <;> subst m
  · exact ⟨by kernel_rfl, fun _ => ⟨false, some (.builtin "int.__radd__"), by kernel_rfl, by rw [typeLookup_type, builtinLookup_eq_fast]; kernel_rfl⟩⟩
  · exact ⟨by kernel_rfl, fun _ => ⟨false, some (.builtin "int.__rsub__"), by kernel_rfl, by rw [typeLookup_type, builtinLookup_eq_fast]; kernel_rfl⟩⟩
  · exact ⟨by kernel_rfl, fun _ => ⟨false, some (.builtin "int.__rmul__"), by kernel_rfl, by rw [typeLookup_type, builtinLookup_eq_fast]; kernel_rfl⟩⟩
  · exact ⟨by kernel_rfl, fun _ => ⟨false, some (.builtin "int.__rfloordiv__"), by kernel_rfl, by rw [typeLookup_type, builtinLookup_eq_fast]; kernel_rfl⟩⟩
  · exact ⟨by kernel_rfl, fun _ => ⟨false, some (.builtin "int.__radd__"), by kernel_rfl, by rw [typeLookup_type, builtinLookup_eq_fast]; kernel_rfl⟩⟩
  · exact ⟨by kernel_rfl, fun _ => ⟨false, some (.builtin "int.__rsub__"), by kernel_rfl, by rw [typeLookup_type, builtinLookup_eq_fast]; kernel_rfl⟩⟩
  · exact ⟨by kernel_rfl, fun _ => ⟨false, some (.builtin "int.__rmul__"), by kernel_rfl, by rw [typeLookup_type, builtinLookup_eq_fast]; kernel_rfl⟩⟩
  · exact ⟨by kernel_rfl, fun _ => ⟨false, some (.builtin "int.__rfloordiv__"), by kernel_rfl, by rw [typeLookup_type, builtinLookup_eq_fast]; kernel_rfl⟩⟩
/-- what stands right of an own operator is of a kind, or of another class -/
theorem tyop_kind (k : Kd) {nm : String} (m : nm ∈ ["add", "sub", "mul", "floordiv"]) : ∃ tf, TyOp k.nm nm tf := by
  cases k with
  | int => exact ⟨_, tyop_yes "int" (.inl rfl) nm m⟩
  | bl => exact ⟨_, tyop_yes "bool" (.inr rfl) nm m⟩
  | non => exact ⟨_, tyop_no "NoneType" (.inl rfl) nm m⟩
  | str => exact ⟨_, tyop_no "str" (.inr (.inl rfl)) nm m⟩
  | tup => exact ⟨_, tyop_no "tuple" (.inr (.inr (.inl rfl))) nm m⟩
  | lst => exact ⟨_, tyop_no "list" (.inr (.inr (.inr (.inl rfl)))) nm m⟩
  | dct => exact ⟨_, tyop_no "dict" (.inr (.inr (.inr (.inr rfl)))) nm m⟩
section
variable {prog : Program} {w : World} {A : Around} {E : Value → Shared → Prop} {s : Shared} {K : PySem.W.Frag} {x C D L f : Addr} {h₀ : Heap} {m : Str → Option Value} {ox : Obj} {od : Option Obj} {b : Value}
/-- a class that has no word for an operator -/
structure BareC (K : PySem.W.Frag) (D : Addr) (nm : String) : Prop where
  cd : ∃ cd, PySem.W.clsIn K D = some cd ∧ cd.mro = [.ref D, .type "object"]
  own : PySem.W.findIn K (.ref D) (PySem.dunder nm) = some none
  refl : PySem.W.findIn K (.ref D) (dunderR nm) = some none
open PySem.W PySem.Calls Builtin in
theorem fills_bare {M : Model} {h : Heap} {nm : String} (X : K.In h) (B : BareC K D nm) (o1 : typeLookup (.type "object") (PySem.dunder nm) = pure none) (o2 : typeLookup (.type "object") (dunderR nm) = pure none) : Looks M h (fillsNumberSlot (.ref D) nm) false := by
  obtain ⟨cd, hc, hm⟩ := B.cd
  intro A Q E s k q
  unfold fillsNumberSlot
  refine wpAny_bind ((looks_clsIn X hc).andThen (f := fun cd => pure cd.mro) .now A _ E s k ?_)
  rw [hm, List.anyM_cons]
  refine wpAny_bind ?_
  show wpAny M A (List.anyM _ [PySem.dunder nm, dunderR nm]) _ _ _
  rw [List.anyM_cons]
  refine wpAny_bind (wpAny_bind (looks_findIn X B.own A _ E s k ?_))
  refine wpAny_pure ?_
  rw [if_neg Bool.false_ne_true]
  rw [List.anyM_cons]
  refine wpAny_bind (wpAny_bind (looks_findIn X B.refl A _ E s k ?_))
  refine wpAny_pure ?_
  rw [if_neg Bool.false_ne_true, List.anyM_nil]
  refine wpAny_pure ?_
  rw [if_neg Bool.false_ne_true, List.anyM_cons]
  refine wpAny_bind ?_
  show wpAny M A (do let f ← typeLookup (.type "object") (PySem.dunder nm); let r ← typeLookup (.type "object") (dunderR nm); return (f.isSome && !isSeqSlot f) || (r.isSome && !isSeqSlot r)) _ _ _
  rw [o1, o2]
  refine wpAny_bind (wpAny_pure (wpAny_bind (wpAny_pure (wpAny_pure ?_))))
  show wpAny M A (if false = true then _ else _) _ _ _
  rw [if_neg Bool.false_ne_true, List.anyM_nil]
  exact wpAny_pure q
open PySem.W PySem.Calls Builtin in
theorem bin_bare {op : Operator} {Q : Value → Shared → Prop} (F : Fr h₀ L s.heap m) (X₀ : K.In h₀) (I : InstAt s.heap x ox C od) (hb : Looks (model prog w) s.heap (typeOf b) (.ref D)) (hCD : C ≠ D) (cC : BinC K C op.info.2) (cD : BareC K D op.info.2)
    (o1 : typeLookup (.type "object") (PySem.dunder op.info.2) = pure none) (o2 : typeLookup (.type "object") (dunderR op.info.2) = pure none) (hs : findIn K (.ref C) (PySem.dunder op.info.2) = some (some (.ref f))) (hf : isFn K (.ref f) = true)
    (h : wpAny (model prog w) A (call (.ref f) [.ref x, b]) (PySem.W.CmpBack Q) E s) : wpAny (model prog w) A (binaryOp op (.ref x) b) Q E s := by
  have X := X₀.keeps F.keep
  obtain ⟨cd, rest, hcd, hm⟩ := ksp_first cC.first
  have hrC := cC.refl
  have M4' := fills_bare (M := model prog w) X cD o1 o2
  rcases hi : op.info with ⟨sym, nm'⟩
  rw [hi] at hs hrC M4'
  dsimp only at hs hrC M4'
  have one := ksp_try X I hs hf h
  obtain ⟨hh, g, d, tt, os⟩ := s
  have M1 : Looks (model prog w) hh (typeOf (.ref x)) (.ref C) := I.type
  have M2 : Looks (model prog w) hh (typeOf b) (.ref D) := hb
  have M3 : Looks (model prog w) hh (fillsNumberSlot (.ref C) nm') true := fills_K X hcd hm hs
  have M4 : Looks (model prog w) hh (fillsNumberSlot (.ref D) nm') false := M4'
  have M6 : Looks (model prog w) hh (numberSlotInPython (.ref C) nm') true := ksp_inPy X hs hrC (.inl rfl)
  have hne : (Value.ref C == Value.ref D) = false := Bool.eq_false_iff.mpr fun q => by cases beq_iff_eq.mp q; exact hCD rfl
  simp only [binaryOp, hi]
  refine wpAny_holding (wpAny_bind ?_)
  unfold binaryOp1
  refine wpAny_bind (M1.at (wpAny_bind (M2.at (wpAny_bind (M3.at ?_)))))
  simp only [hne, Bool.false_eq_true, if_false]
  ksp_lk
  refine wpAny_mono one (fun r s' hr' => ?_) fun _ _ e => e
  obtain ⟨v, rfl, hq⟩ := hr'
  ksp_lk
  exact hq
end
/-- what may stand right: a value of a kind, an instance of the family, an instance of a class without such operators -/
def ROpd (K : PySem.W.Frag) (IsV : Addr → Prop) (CG : Addr) (H : Hp) (y : V) : Prop := (∃ kd, Of K H y kd) ∨ (∃ b D dy gs, y = .ref b ∧ IsV D ∧ H b = some (.ins D dy gs)) ∨ ∃ b dx fs, y = .ref b ∧ H b = some (.ins CG dx fs)
def rBinO (K : PySem.W.Frag) (IsV : Addr → Prop) (CG : Addr) (sp : Sp) (E : XK) : R2 := fun x y H Q => ∃ a C dx fs, x = .ref a ∧ IsV C ∧ H a = some (.ins C dx fs) ∧ ROpd K IsV CG H y ∧ sp [.ref a, y] H Q E
section
variable {X : Cx} {CX : CXT} {k : Nat} {IsV : Addr → Prop} {sp : Sp} {E : XK} {m : Str} {CG : Addr}
theorem sub_kind (kd : Kd) (C : Addr) : isSubtype (.type kd.nm) (.ref C) = pure false := by
  cases kd <;> (rw [isSubtype_type]; kernel_rfl)
theorem op_binO {op : Operator} (hn : PySem.dunder op.info.2 = m) (hmem : op.info.2 ∈ ["add", "sub", "mul", "floordiv"]) (h : ∀ C, IsV C → HasM X.prog X.w X.K X.mg X.base CX C m k ["self", "other"] sp) (bk : ∀ C D, IsV C → IsV D → BinK X.K C D op)
    (bc : ∀ C, IsV C → BinC X.K C op.info.2) (bg : BareC X.K CG op.info.2) (ng : ∀ C, IsV C → C ≠ CG) (g : Gd X.A) (hr : Room k X.A) (hx : Passes CX X E) : OpR X (binaryOp op) (rBinO X.K IsV CG sp E) := by
  intro pins s σ H x y v u Q I rx ry hq
  obtain ⟨a, C, dx, fs, rfl, vC, ha, opd, q⟩ := hq
  rcases opd with ⟨kd, ok⟩ | ⟨b, D, dy, gs, rfl, vD, hb⟩ | ⟨b, dg, gs, rfl, hb⟩
  · cases (show v = Value.ref a from rx)
    obtain ⟨f, fd, F, M, bi⟩ := (h C vC).ex
    obtain ⟨_, O1, _⟩ := ins_get I.hok ha
    obtain ⟨od, J, _⟩ := O1.look
    obtain ⟨m', fr⟩ := I.fr
    obtain ⟨Pk, Z, pk, _⟩ := kit_of I ry ok
    obtain ⟨tf, ty⟩ := tyop_kind kd hmem
    have at_ : PySem.W.findIn X.K (.ref C) (PySem.dunder op.info.2) = some (some (.ref f)) := by rw [hn]; exact M.at_
    refine bin_type fr I.mod.kin J (Z.ty _ _ I.kIn pk) ty (sub_kind kd C) (bc C vC) at_ M.fn ?_
    have b1 := bi s [.ref a, u] I.kIn rfl
    rw [List.append_nil] at b1
    apply wpAny_call
    refine codeAny_mono (F.go g hr I.env0 b1 (vs := [.ref a, y]) (.cons rfl (.cons ry .nil)) q) (fun res s' z => ?_)
    match res, z with
    | .error _, z => exact hx pins σ H _ _ s' I z
    | .ok (.ret _), z =>
      obtain ⟨v, H', I', rv, q2⟩ := I.after z
      exact rel_back rv ⟨v, H', I', rv, q2⟩
  · exact op_binV hn h bk g hr hx pins s σ H _ _ v u Q I rx ry ⟨a, b, C, D, dx, dy, fs, gs, rfl, rfl, vC, vD, ha, hb, q⟩
  · cases (show v = Value.ref a from rx)
    cases (show u = Value.ref b from ry)
    obtain ⟨f, fd, F, M, bi⟩ := (h C vC).ex
    obtain ⟨_, O1, _⟩ := ins_get I.hok ha
    obtain ⟨_, O2, _⟩ := ins_get I.hok hb
    obtain ⟨od, J, _⟩ := O1.look
    obtain ⟨od2, J2, _⟩ := O2.look
    obtain ⟨m', fr⟩ := I.fr
    have tb : PySem.W.Looks (model X.prog X.w) s.heap (typeOf (.ref b)) (.ref CG) := J2.type
    have at_ : PySem.W.findIn X.K (.ref C) (PySem.dunder op.info.2) = some (some (.ref f)) := by rw [hn]; exact M.at_
    have obj : ∀ nm ∈ ["add", "sub", "mul", "floordiv"], typeLookup (.type "object") (PySem.dunder nm) = pure none ∧ typeLookup (.type "object") (dunderR nm) = pure none := by
      intro nm m
      simp only [List.mem_cons, List.not_mem_nil, or_false] at m
      rcases m with m | m | m | m <;> subst m <;> exact ⟨by rw [typeLookup_type, builtinLookup_eq_fast]; kernel_rfl, by rw [typeLookup_type, builtinLookup_eq_fast]; kernel_rfl⟩
    refine bin_bare fr I.mod.kin J tb (ng C vC) (bc C vC) bg (obj _ hmem).1 (obj _ hmem).2 at_ M.fn ?_
    have b1 := bi s [.ref a, .ref b] I.kIn rfl
    rw [List.append_nil] at b1
    apply wpAny_call
    refine codeAny_mono (F.go g hr I.env0 b1 (vs := [.ref a, .ref b]) (.cons rfl (.cons rfl .nil)) q) (fun res s' z => ?_)
    match res, z with
    | .error _, z => exact hx pins σ H _ _ s' I z
    | .ok (.ret _), z =>
      obtain ⟨v, H', I', rv, q2⟩ := I.after z
      exact rel_back rv ⟨v, H', I', rv, q2⟩
end
end GL
/-! a text compared with an instance that has an own ==; values of any kind in a tuple of texts -/
namespace GL
open PySem PySem.Spec PyProof.Rows L2
section
variable {prog : Program} {w : World} {A : Around} {E : Value → Shared → Prop} {s : Shared} {K : PySem.W.Frag} {b C f : Addr} {ob : Obj} {od : Option Obj} {y : Str} {t : Tok}
open PySem.W PySem.Calls Builtin in
theorem str_declines {Q : Option Value → Shared → Prop} (ho : s.heap.get? b = some ob) (np : ∀ x u, ob.data ≠ .prim (.str x u)) (q : Q none s) : wpAny (model prog w) A (tryCompare (.str y t) "__eq__" (.ref b)) Q E s := by
  refine wpAny_tryCompare_declines (id := "str.__eq__") (typeIs_str s y t) F.slot_str_eq ?_
  refine wpAny_call (codeAny_call_builtin F.slot_str_eq.plain F.entry_str_eq (F.slot_str_eq.check _ _ _ _ _ _ _ _ (typeIs_str s y t) (F.args_str_eq_2 _ _) ?_))
  show wpAny _ _ (Builtin.Str.strCompare "__eq__" (· == ·) ⟨[.str y t, .ref b], []⟩) _ _ _
  unfold Builtin.Str.strCompare
  refine wpAny_bind (wpAny_of_eq (a := ((Value.str y t : Value), y, [Value.ref b])) (by rfl) ?_)
  have as_ : wpAny (model prog w) (A.under (.builtin "str.__eq__" ⟨[.str y t, .ref b], []⟩)) (asStr? (.ref b)) (fun r s' => r = none ∧ s' = s) (fun _ _ => False) s := by
    obtain ⟨hh, g, d, tt, os⟩ := s
    unfold asStr?
    refine wpAny_bind (wpAny_load ho ?_)
    cases e : ob.data with
    | prim v => cases v with
      | str x u => exact absurd e (np x u)
      | _ => exact wpAny_pure ⟨rfl, rfl⟩
    | _ => exact wpAny_pure ⟨rfl, rfl⟩
  refine wpAny_bind (wpAny_mono as_ (fun r s' z => ?_) (fun _ _ z => z.elim))
  obtain ⟨rfl, rfl⟩ := z
  exact wpAny_bind (wpAny_rule (wpAny_pure ⟨rfl, q⟩))
open PySem.W PySem.Calls Builtin in
/-- y == b, y a text, b an instance with an own == -/
theorem str_eq_own {Q : Value → Shared → Prop} (hu : A.units < cLine) (X : K.In s.heap) (I : PySem.W.InstAt s.heap b ob C od) (np : ∀ x u, ob.data ≠ .prim (.str x u)) (sub : PySem.W.subIn K (.ref C) (.type "str") = some false)
    (hs : PySem.W.findIn K (.ref C) "__eq__" = some (some (.ref f))) (hf : PySem.W.isFn K (.ref f) = true) (h : wpAny (model prog w) A (call (.ref f) [.ref b, .str y t]) (PySem.W.CmpBack Q) E s) :
    wpAny (model prog w) A (richCompare .Eq (.str y t) (.ref b)) Q E s := by
  have one : wpAny (model prog w) A (tryCompare (.ref b) "__eq__" (.str y t)) (fun r s' => ∃ v, r = some v ∧ Q v s') E s := by
    unfold tryCompare
    refine wpAny_bind (ifBound_K X I hs hf (wpAny_mono h (fun v s' hv => ?_) fun _ _ e => e))
    cases v <;> first | exact hv.elim | exact wpAny_pure ⟨_, rfl, hv⟩
  unfold richCompare
  refine wpAny_holding (wpAny_bind (wpAny_cRoomFor hu ?_))
  have e1 : oneThing? CmpOp.Eq (.str y t) (.ref b) = none := by first | rfl | (unfold oneThing?; rfl) | (simp [oneThing?])
  rw [e1]
  have e2 : typeOf (.str y t) = pure (.type "str") := rfl
  simp only [cmpInfo, e2]
  refine wpAny_bind (wpAny_pure (wpAny_bind (I.type.here ?_)))
  have e3 : (Value.type "str" != Value.ref C) = true := rfl
  rw [if_pos e3]
  refine wpAny_bind ((looks_subIn X sub).here ?_)
  simp only [Bool.false_eq_true, if_false]
  refine wpAny_bind (str_declines I.at_ np ?_)
  refine wpAny_bind (wpAny_mono one (fun r s' z => ?_) fun _ _ e => e)
  obtain ⟨v, rfl, hq⟩ := z
  exact wpAny_pure hq
end
end GL
namespace GL
open PySem PySem.Spec PyProof.Rows L2
section
variable {X : Cx} {CX : CXT} {k : Nat} {C : Addr} {sp : Sp} {E : XK}
/-- x in (y, ..): texts, x an instance whose own == tells them all apart from it -/
def rInO (C : Addr) (sp : Sp) (E : XK) (ys : List Str) (K : PySem.W.Frag) : R2 := fun x t H Q => ∃ a dx fs p, x = .ref a ∧ t = .ref p ∧ H a = some (.ins C dx fs) ∧ SqT K H p (ys.map V.str) ∧ (∀ y ∈ ys, sp [.ref a, .str y] H (fun v H' => v = .bl false ∧ H' = H) E) ∧ Q (.bl false) H
theorem strs_are {us : List Value} : ∀ {ys : List Str}, Vals (ys.map V.str) us → StrsAre us ys := by
  induction us with
  | nil =>
    intro ys h
    cases ys with
    | nil => exact .nil
    | cons y r => cases h
  | cons u r ih =>
    intro ys h
    cases ys with
    | nil => cases h
    | cons y ys =>
      cases h with
      | cons h1 h2 =>
        obtain ⟨t, rfl⟩ := h1
        exact .cons y t (ih h2)
open PySem.W PySem.Calls in
theorem contains_own {ys : List Str} (h : HasM X.prog X.w X.K X.mg X.base CX C "__eq__" k ["self", "other"] sp) (sub : PySem.W.subIn X.K (.ref C) (.type "str") = some false) (g : Gd X.A) (hr : Room (k + 1) X.A) (hx : Passes CX X E) {pins : List (Addr × Obj)} {s : Shared} {σ : L2.St} {H : Hp} {a dx p : Addr} {fs : List (Str × V)} (I : Inv X pins σ H s) (ha : H a = some (.ins C dx fs)) (hT : SqT X.K H p (ys.map V.str))
    (all : ∀ y ∈ ys, sp [.ref a, .str y] H (fun v H' => v = .bl false ∧ H' = H) E) : wpAny (model X.prog X.w) X.A (contains (.ref p) (.ref a)) (fun r s' => r = false ∧ Inv X pins σ H s') X.xe s := by
  obtain ⟨f, fd, F, M, bi⟩ := h.ex
  obtain ⟨its, rv, ⟨o, ho, hc, n, hd⟩, _⟩ := I.tuple hT
  have sa := strs_are rv
  unfold contains
  refine wpAny_holding ?_
  have ht : s.TypeIs (.ref p) "tuple" := ⟨o, ho, hc⟩
  refine wpAny_bind (wpAny_specialOf ht slot_tuple_contains.lookup ?_)
  rw [if_neg (by decide)]
  refine wpAny_bind (wpAny_callSpecialUnlessNone?_slot (name := Str.ofString "__contains__") ht slot_tuple_contains (wpAny_call_entry slot_tuple_contains ht entry_tuple_contains ?_ (args_tuple_contains _ _)))
  have start : IsTup s.heap p its.toArray := by
    refine ⟨o, ho, hc, n, ?_⟩
    simpa using hd
  show wpAny _ _ (Builtin.Tuple.tupleItemsOf (.ref p) >>= _) _ _ s
  refine wpAny_bind (tupleItemsOf_ start ?_)
  refine wpAny_bind (forIn_array_ _ (fun rest b s' => b.1 = none ∧ Inv X pins σ H s' ∧ ∃ ms, StrsAre rest ms ∧ ∀ y ∈ ms, y ∈ ys) _ ?_ ?_ its.toArray _ ⟨rfl, I, ys, by simpa using sa, fun _ h => h⟩)
  · rintro it rest b s' ⟨hb, I', ms, hm, sub_⟩
    cases hm with
    | cons y tk hm' =>
      obtain ⟨mA, O1, _⟩ := ins_get I'.hok ha
      obtain ⟨od, J, _⟩ := O1.look
      have b1 := bi s' [.ref a, .str y tk] I'.kIn rfl
      rw [List.append_nil] at b1
      refine wpAny_bind ?_
      unfold eqBool
      refine wpAny_holding ?_
      show wpAny _ _ (if (Value.str y tk == Value.ref a) = true then _ else _) _ _ _
      rw [if_neg (show ¬ ((Value.str y tk == Value.ref a) = true) from by intro z; cases (eq_of_beq z))]
      refine wpAny_bind (str_eq_own (by have := hr.un; show X.A.units + 1 < cLine; omega) I'.kIn J (fun x u z => by cases z) sub M.at_ M.fn ?_)
      apply wpAny_call
      refine codeAny_mono (F.go (A := X.A.in1) g hr.in1 I'.env0.in1 b1 (vs := [.ref a, .str y]) (.cons rfl (.cons ⟨tk, rfl⟩ .nil)) (all y (sub_ y (List.mem_cons_self ..)))) (fun res s2 z => ?_)
      match res, z with
      | .error _, z => exact hx pins σ H _ _ s2 I' z
      | .ok (.ret _), z =>
        obtain ⟨v, H', I2, rv2, e1, e2⟩ := I'.after z
        subst e1 e2
        cases (show _ = Value.bool false from rv2)
        exact wpAny_truthy_bool (wpAny_pure ⟨rfl, I2, _, hm', fun z hz => sub_ z (List.mem_cons_of_mem _ hz)⟩)
  · rintro ⟨b1, b2⟩ s' ⟨hb, I', ms, hm, _⟩
    simp only at hb
    subst hb
    exact wpAny_pure ⟨_, rfl, wpAny_truthy_bool ⟨rfl, I'⟩⟩
theorem op_inO {ys : List Str} (h : HasM X.prog X.w X.K X.mg X.base CX C "__eq__" k ["self", "other"] sp) (sub : PySem.W.subIn X.K (.ref C) (.type "str") = some false) (g : Gd X.A) (hr : Room (k + 1) X.A) (hx : Passes CX X E) :
    OpR X (compareOp .In) (rInO C sp E ys X.K) := by
  intro pins s σ H x y v u Q I rx ry hq
  obtain ⟨a, dx, fs, p, rfl, rfl, ha, hT, all, q⟩ := hq
  cases (show v = Value.ref a from rx)
  cases (show u = Value.ref p from ry)
  show wpAny (model X.prog X.w) X.A (do return Value.bool (← contains (.ref p) (.ref a))) _ _ s
  refine wpAny_bind (wpAny_mono (contains_own h sub g hr hx I ha hT all) (fun r s' z => ?_) fun _ _ e => e)
  obtain ⟨rfl, I'⟩ := z
  exact wpAny_pure ⟨.bl false, H, I', rfl, q⟩
def rNotInO (C : Addr) (sp : Sp) (E : XK) (ys : List Str) (K : PySem.W.Frag) : R2 := fun x t H Q => ∃ a dx fs p, x = .ref a ∧ t = .ref p ∧ H a = some (.ins C dx fs) ∧ SqT K H p (ys.map V.str) ∧ (∀ y ∈ ys, sp [.ref a, .str y] H (fun v H' => v = .bl false ∧ H' = H) E) ∧ Q (.bl true) H
theorem op_notInO {ys : List Str} (h : HasM X.prog X.w X.K X.mg X.base CX C "__eq__" k ["self", "other"] sp) (sub : PySem.W.subIn X.K (.ref C) (.type "str") = some false) (g : Gd X.A) (hr : Room (k + 1) X.A) (hx : Passes CX X E) :
    OpR X (compareOp .NotIn) (rNotInO C sp E ys X.K) := by
  intro pins s σ H x y v u Q I rx ry hq
  obtain ⟨a, dx, fs, p, rfl, rfl, ha, hT, all, q⟩ := hq
  cases (show v = Value.ref a from rx)
  cases (show u = Value.ref p from ry)
  show wpAny (model X.prog X.w) X.A (do return Value.bool (!(← contains (.ref p) (.ref a)))) _ _ s
  refine wpAny_bind (wpAny_mono (contains_own h sub g hr hx I ha hT all) (fun r s' z => ?_) fun _ _ e => e)
  obtain ⟨rfl, I'⟩ := z
  exact wpAny_pure ⟨.bl true, H, I', rfl, q⟩
end
end GL
/-! what stays while lambdas are handed to a def: all but the dice and the tables -/
namespace GL
open PySem PySem.Spec PyProof.Rows L2 LamX
/-- the heap without the dice at p and without tables -/
def mask (p : Addr) (H : Hp) : Hp := fun b => if b = p then none else match H b with | some (.tbl _) => none | x => x
theorem mask_p {p : Addr} {H : Hp} : mask p H p = none := if_pos rfl
theorem mask_at {p b : Addr} {H : Hp} {o : HO} (e : H b = some o) (n : b ≠ p) (nt : ∀ ps, o ≠ .tbl ps) : mask p H b = some o := by
  unfold mask
  rw [if_neg n, e]
  cases o <;> first | rfl | exact absurd rfl (nt _)
theorem mask_of {p b : Addr} {H : Hp} {o : HO} (e : mask p H b = some o) : H b = some o ∧ b ≠ p ∧ ∀ ps, o ≠ .tbl ps := by
  unfold mask at e
  split at e
  · cases e
  · rename_i n
    split at e
    · cases e
    · rename_i nt
      refine ⟨e, n, fun ps z => ?_⟩
      subst z
      exact nt _ e
theorem mask_same {p : Addr} {H : Hp} : Same (mask p H) H := fun b o e => (mask_of e).1
theorem die_ne {p b : Addr} {H : Hp} {o : HO} (d : Die H p) (e : H b = some o) (n : ∀ xs, o ≠ .lst xs) : b ≠ p := by
  obtain ⟨_, _, _, _, e0⟩ := d
  exact ne_of e e0 (n _)
theorem die_new {p b : Addr} {H : Hp} (d : Die H p) (e : H b = none) : b ≠ p := by
  obtain ⟨_, _, _, _, e0⟩ := d
  intro z
  rw [z, e0] at e
  cases e
/-- M, what stays; H, the heap now -/
structure St (T : List (Addr × Str)) (p : Addr) (M H : Hp) : Prop where
  same : Same M H
  mp : M p = none
  nt : ∀ b ps, M b ≠ some (.tbl ps)
  die : Die H p
  tabs : Tabs T H
section
variable {T : List (Addr × Str)} {p : Addr} {M H H' : Hp}
theorem St.start (d : Die H p) (t : Tabs T H) : St T p (mask p H) H := ⟨mask_same, mask_p, fun b ps z => (mask_of z).2.2 ps rfl, d, t⟩
theorem die_lst (d : Die H p) : ∃ xs, H p = some (.lst xs) := let ⟨_, _, _, _, e⟩ := d; ⟨_, e⟩
theorem St.met (s : St T p M H) (e : ExtN H H') (t : Tabs T H') : St T p M H' := by
  refine ⟨fun b o h => e b o (s.same b o h) (fun ps z => s.nt b ps (by rw [h, z])), s.mp, s.nt, ?_, t⟩
  obtain ⟨l, b, c, h0, e0⟩ := s.die
  exact ⟨l, b, c, h0, e p _ e0 (fun ps z => by cases z)⟩
theorem tabs_keep (t : Tabs T H) (k : ∀ b o, H b = some o → (∀ xs, o ≠ .lst xs) → H' b = some o) : Tabs T H' := fun q hq => by
  obtain ⟨ps, h1, h2, h3⟩ := t q hq
  refine ⟨ps, k _ _ h1 (fun _ z => by cases z), h2, fun pos cv hc => ?_⟩
  obtain ⟨c, e1, e2⟩ := h3 pos cv hc
  exact ⟨c, e1, k _ _ e2 (fun _ z => by cases z)⟩
theorem St.got (s : St T p M H) (g : Got p H H') : St T p M H' := by
  obtain ⟨xs, e0⟩ := die_lst s.die
  exact ⟨fun b o h => g.keep b o (s.same b o h) (fun z => by rw [z, s.mp] at h; cases h), s.mp, s.nt, g.die, tabs_keep s.tabs (fun b o e n => g.keep b o e (fun z => by rw [z, e0] at e; cases e; exact n _ rfl))⟩
theorem St.ext (s : St T p M H) (g : Same H H') : St T p M H' := ⟨fun b o h => g b o (s.same b o h), s.mp, s.nt, let ⟨l, b, c, h0, e0⟩ := s.die; ⟨l, b, c, h0, g _ _ e0⟩, s.tabs.ext g⟩
/-- a list of ours is written, or made -/
theorem St.over {L : Addr} {o : HO} (s : St T p M H) (n : M L = none) (np : L ≠ p) (was : H L = none ∨ ∃ xs, H L = some (.lst xs)) : St T p M (upd H L o) := by
  refine ⟨fun b u h => ?_, s.mp, s.nt, ?_, tabs_keep s.tabs (fun b u e nl => ?_)⟩
  · rw [upd_ne (fun z => by rw [z, n] at h; cases h)]
    exact s.same b u h
  · obtain ⟨l, b, c, h0, e0⟩ := s.die
    exact ⟨l, b, c, h0, by rw [upd_ne (Ne.symm np)]; exact e0⟩
  · rw [upd_ne (fun z => ?_)]
    · exact e
    · rw [z] at e
      rcases was with w | ⟨xs, w⟩
      · rw [w] at e; cases e
      · rw [w] at e; cases e; exact nl _ rfl
theorem St.re (s : St T p M H) : St T p (mask p H) H := St.start s.die s.tabs
theorem St.grow (s : St T p M H) : Same M (mask p H) := fun b o e => mask_at (s.same b o e) (fun z => by rw [z, s.mp] at e; cases e) (fun ps z => s.nt b ps (by rw [e, z]))
end
section
variable {K : PySem.W.Frag} {C CV CM D : Addr} {U : Bool → Addr} {p : Addr} {H : Hp} {t : Bool} {u : Int × Int}
theorem gridAt_mask {g : Addr} (h : GridAt C U H g t) (d : Die H p) : GridAt C U (mask p H) g t := let ⟨dx, e⟩ := h; ⟨dx, mask_at e (die_ne d e (fun _ z => by cases z)) (fun _ z => by cases z)⟩
theorem pAt_mask {a : Addr} (h : PAt K H a u) (d : Die H p) : PAt K (mask p H) a u := by
  rcases h with (z | ⟨o, z⟩) | z
  · exact .inl (.inl (mask_at z (die_ne d z (fun _ z => by cases z)) (fun _ z => by cases z)))
  · exact .inl (.inr ⟨o, mask_at z (die_ne d z (fun _ z => by cases z)) (fun _ z => by cases z)⟩)
  · exact .inr z
theorem vecAt_mask {v : Addr} (h : VecAt K C U D H v t u) (d : Die H p) : VecAt K C U D (mask p H) v t u :=
  let ⟨dx, g, a, e, hg, hp⟩ := h
  ⟨dx, g, a, mask_at e (die_ne d e (fun _ z => by cases z)) (fun _ z => by cases z), gridAt_mask hg d, pAt_mask hp d⟩
end
/-- what a part leaves: all but the dice and the tables -/
def GotT (T : List (Addr × Str)) (p : Addr) (H H' : Hp) : Prop := Same (mask p H) H' ∧ Die H' p ∧ Tabs T H'
theorem St.done {T : List (Addr × Str)} {p : Addr} {M H H' : Hp} (s : St T p M H') (g : Same (mask p H) M) : GotT T p H H' := ⟨fun b o e => s.same b o (g b o e), s.die, s.tabs⟩
theorem GotT.trans {T : List (Addr × Str)} {p : Addr} {H H1 H2 : Hp} (a : GotT T p H H1) (b : GotT T p H1 H2) : GotT T p H H2 := by
  refine ⟨fun c o e => ?_, b.2.1, b.2.2⟩
  have k := mask_of e
  exact b.1 c o (mask_at (a.1 c o e) k.2.1 k.2.2)
/-! ### a def that tells its code object -/
structure Dl (K : PySem.W.Frag) (mg : Str → Option Value) (x : Str) (st : Stmt) (c : Addr) : Prop where
  ex : ∃ (f : Addr) (oc kV doc pm ct : Value) (od an : Option Addr) (osl : Array (Option Value)), K.lookup f = some ⟨oc, od, .func (PySem.W.fnOf x x (defArgs st) (defBody st) (defScope st) .none kV doc pm an (.ref c) ct), osl⟩ ∧ PySem.W.codeIn K (.ref c) x = true ∧ PySem.W.keepIn K (.ref f) = true ∧ mg x = some (.ref f)
section
variable {P : Program} {w : World} {K : PySem.W.Frag} {mg : Str → Option Value} {base : Heap} {k : Nat} {ps N : List Str} {sp : Sp} {x : Str} {st : Stmt} {c : Addr}
theorem dl_mk {h : Heap} {f : Addr} {oc : Value} {od an : Option Addr} {osl : Array (Option Value)} {kV doc pm ct : Value} (X : K.In h) (G : h.Ns mainGlobals mg)
    (a : PySem.W.nsIn K mainGlobals x = some (some (.ref f))) (l : K.lookup f = some ⟨oc, od, .func (PySem.W.fnOf x x (defArgs st) (defBody st) (defScope st) .none kV doc pm an (.ref c) ct), osl⟩)
    (cd : PySem.W.codeIn K (.ref c) x = true) (kp : PySem.W.keepIn K (.ref f) = true) : Dl K mg x st c := ⟨f, oc, kV, doc, pm, ct, od, an, osl, l, cd, kp, PySem.W.mg_of X G a⟩
theorem Dl.hasL (D : Dl K mg x st c) (S : FnScope N ps (defScope st)) (len : ∀ vs H Q E, sp vs H Q E → vs.length = ps.length)
    (bi : ∀ (kV doc pm : Value) (an : Option Addr) (cdv ct : Value) (us : List Value), us.length = ps.length → bindArgs (PySem.W.fnOf x x (defArgs st) (defBody st) (defScope st) .none kV doc pm an cdv ct) ⟨us, []⟩ = pure (ps.zip us))
    (body : ∀ (f : Addr) (A : Around) (outer : List Env) (s : Shared) (H : Hp) (vs : List V) (Q : VK) (E : XK), Gd (A.deeper (envOfC x (defScope st) s.heap.objs.size f (.ref c))) → Room k (A.deeper (envOfC x (defScope st) s.heap.objs.size f (.ref c))) → sp vs H Q E →
      ∃ t, PSs (cxOf CX0 P w K mg base N x (defScope st) f (.ref c) A outer s H E).nox (defBody st) t ∧ t { nx := fun _ H' => Q .non H', rt := Q } (start N vs) H) : Has P w K mg base CX0 x (k + 1) ps sp := by
  obtain ⟨f, oc, kV, doc, pm, ct, od, an, osl, at_, cR, kp, m⟩ := D.ex
  have F : Fun K x x st f (PySem.W.fnOf x x (defArgs st) (defBody st) (defScope st) .none kV doc pm an (.ref c) ct) := fun_mk at_ cR kp
  refine ⟨f, _, ?_, m, kp, .all (bi kV doc pm an (.ref c) ct)⟩
  constructor
  · exact len
  intro A outer s H args us vs Q E g room e0 bi vals asked
  have inK : K.In s.heap := e0.mod.kin.keeps (fun b o q => (e0.bs b o q).1)
  have line : s.heap.NoLimit := e0.mod.nolimit.keeps (fun b o q => (e0.bs b o q).1)
  have kinds : ∀ y ∈ ps.zip us, (defScope st).names.lookup y.1 = some .local ∨ ((defScope st).names.lookup y.1 = some .cell ∧ ((cellsFrom (s.heap.objs.size + 1) (defScope st).names []).lookup y.1).isSome = true) := by
    intro ⟨n, v⟩ hy
    cases S.par n (List.of_mem_zip hy).1 with
    | inl q => exact Or.inl q
    | inr q => exact Or.inr ⟨q, PySem.W.cellsFrom_some _ _ _ (Or.inl q)⟩
  apply codeAny_call_function room.depth (inK _ _ at_) rfl S.co S.gen rfl (PySem.W.codeRec_of inK cR)
  apply bi
  refine wpAny_newFunctionEnv_cells S.kind kinds (fun env eE s1 x1 => ?_)
  subst eE
  obtain ⟨t, rule0, q⟩ := body f A outer s H vs Q E g (room.deeper _) asked
  have rule := rule0.nox
  have I0 := inv_start (CX := CX0) (E := E) S room.hd e0 (len _ _ _ _ asked) vals x1
  refine ⟨line.keeps x1.toInCall.keep, codeAny_func (wpAny_mono (rule.run [] s1 _ H _ I0 q) (fun fl s' done => ?_) (fun _ _ z => z))⟩
  cases fl with
  | ret u => obtain ⟨v, _, H', J, rv, qv⟩ := done; exact ⟨v, H', J.os, J.bare, J.base, J.hok, rv, qv⟩
  | next => obtain ⟨_, H', J, qv⟩ := done; exact ⟨V.non, H', J.os, J.bare, J.base, J.hok, rfl, qv⟩
  | brk => obtain ⟨_, _, _, z⟩ := done; exact z.elim
  | cont => obtain ⟨_, _, _, z⟩ := done; exact z.elim
end
end GL
/-! a class that is called and may raise; not in a tuple of texts, for values of any kind -/
namespace GL
open PySem PySem.Spec PyProof.Rows L2
structure HasGX (P : Program) (w : World) (K : PySem.W.Frag) (mg : Str → Option Value) (base : Heap) (CX : CXT) (x : Str) (C : Addr) (k : Nat) (ps : List Str) (sp : Sp) : Prop where
  ex : ∃ f fd, FnG P w K mg base CX k f fd ps sp ∧ mg x = some (.ref C) ∧ Mk K C f ∧ Binds K fd ps []
section
variable {X : Cx} {CX : CXT} {k : Nat} {f C : Addr} {fd : FuncData} {ps : List Str} {sp : Sp} {E : XK} {x : Str} {p pos : Pos} {e : Expr} {es : List Expr} {t : TA}
theorem pe_makeGX (h : HasGX X.prog X.w X.K X.mg X.base CX x C k ps sp) (g : Gd X.A) (hr : Room (k + 1) X.A) (hx : Passes CX X E) (ha : PA X (e :: es) t) (hg : Gl X x := by exact rfl)
    (hdb : (x == ("__debug__" : Str)) = false := by decide) (he : starEach (e :: es) X.env = (false, eval e X.env) :: starEach es X.env := by rfl) (hpl : (backTo pos (starEach es X.env)).any (·.1) = false := by rfl) :
    PE X (.Call (.Name x p) (e :: es) [] pos) (tMake C sp [] E t) := by
  obtain ⟨f, fd, F, m, M, b⟩ := h.ex
  refine ⟨fun pins s σ H Q I q => ?_⟩
  refine wpAny_Call_Name_kw (ld_glob I hg m ?_ hdb)
  refine PySem.W.callWith_K (h₀ := X.base) I.ok.mod.kin M.kp (thn (ha.run pos pins s σ H _ I q) fun us s1 ⟨vs, H1, I1, r, q1⟩ => ?_) he hpl
  exact ⟨I1.kIn, run_makeG M F g hr b hx I1 r q1⟩
end
theorem Dc.hasGX {P : Program} {w : World} {K : PySem.W.Frag} {mg : Str → Option Value} {base : Heap} {C : Addr} {x qual : Str} {st : Stmt} {N ps : List Str} {k : Nat} {sp : Sp} (D : Dc K C qual st) (m : mg x = some (.ref C)) (S : FnScope N ps (defScope st)) (len : ∀ vs H Q E, sp vs H Q E → vs.length = ps.length)
    (bi : ∀ (kV doc pm : Value) (an : Option Addr) (cdv ct : Value) (us : List Value), us.length = ps.length → bindArgs (PySem.W.fnOf "__init__" qual (defArgs st) (defBody st) (defScope st) .none kV doc pm an cdv ct) ⟨us, []⟩ = pure (ps.zip us))
    (body : ∀ (f : Addr) (cdv : Value) (A : Around) (outer : List Env) (s : Shared) (H : Hp) (vs : List V) (Q : VK) (E : XK), Gd (A.deeper (envOfC qual (defScope st) s.heap.objs.size f cdv)) → Room k (A.deeper (envOfC qual (defScope st) s.heap.objs.size f cdv)) → sp vs H Q E →
      ∃ t, PSs (cxOf (L2.CX P w) P w K mg base N qual (defScope st) f cdv A outer s H E) (defBody st) t ∧ t { nx := fun _ H' => Q .non H', rt := Q } (start N vs) H) : HasGX P w K mg base (L2.CX P w) x C (k + 1) ps sp := by
  obtain ⟨f, fd, F, M⟩ := D.ex
  exact ⟨f, fd, fnG_mk F S len (body f), m, M, F.binds bi⟩
/-! ### not in a tuple of texts -/
def Dr (K : PySem.W.Frag) (H : Hp) (x : V) (d : PyData) : Prop := Dp K H x d ∨ Dq K H x d
def rNotInQ (K : PySem.W.Frag) : R2 := fun x t H Q => ∃ d p, ∃ ys : List Str, Dr K H x d ∧ t = .ref p ∧ SqT K H p (ys.map V.str) ∧ d.canLay0 = true ∧ PyData.canLayAll0 (ys.map PyData.str) = true ∧ Q (.bl (!(ys.map PyData.str).any fun z => PyData.eqv z d)) H
theorem dp_strs {K : PySem.W.Frag} {H : Hp} : ∀ {ys : List Str}, DpAll K H (ys.map V.str) (ys.map PyData.str)
  | [] => .nil
  | y :: _ => .cons (.str y) dp_strs
theorem depth_strs : ∀ (ys : List Str), PyData.depthAll (ys.map PyData.str) = 0
  | [] => by simp [PyData.depthAll]
  | y :: r => by simp [PyData.depthAll, PyData.depth, depth_strs r]
section
variable {X : Cx} {CX : CXT} {k : Nat} {C : Addr} {sp : Sp} {E : XK}
theorem op_notInQ (hu : X.A.units + 66 < cLine) : OpR X (compareOp .NotIn) (rNotInQ X.K) := by
  intro pins s σ H x y v u Q I rx ry asked
  obtain ⟨d, p, ys, hd, rfl, ht, ld, ls, q⟩ := asked
  obtain ⟨_, r1⟩ : ∃ as, Reads s.heap v d as := hd.elim (fun h => Dp.reads I d x v h rx) (fun h => Dq.reads I h rx)
  obtain ⟨_, r2⟩ := Dp.reads I (.tuple (ys.map PyData.str)) _ u (.tup ht dp_strs) ry
  exact SeqAt.notIn_tuple_reads r2 r1 ls ld (by rw [depth_strs]; have := Nat.min_le_left 0 d.depth; omega) ⟨.bl _, H, I, rfl, q⟩
theorem op_or {op : Value → Value → Sem Value} {r1 r2 : R2} (h1 : OpR X op r1) (h2 : OpR X op r2) : OpR X op (fun x y H Q => r1 x y H Q ∨ r2 x y H Q) := fun pins s σ H x y v u Q I rx ry h => h.elim (h1 pins s σ H x y v u Q I rx ry) (h2 pins s σ H x y v u Q I rx ry)
theorem op_notInG {ys : List Str} (hu : X.A.units + 66 < cLine) (h : HasM X.prog X.w X.K X.mg X.base CX C "__eq__" k ["self", "other"] sp) (sub : PySem.W.subIn X.K (.ref C) (.type "str") = some false) (g : Gd X.A) (hr : Room (k + 1) X.A) (hx : Passes CX X E) :
    OpR X (compareOp .NotIn) (fun x y H Q => rNotInQ X.K x y H Q ∨ rNotInO C sp E ys X.K x y H Q) := op_or (op_notInQ hu) (op_notInO h sub g hr hx)
end
end GL
/-! an empty dict beside texts and tuples -/
namespace GL
open PySem PySem.Spec PyProof.Rows L2 PySem.SeqAt
section
variable {prog : Program} {w : World} {A : Around} {E : Value → Shared → Prop} {s : Shared} {a b : Addr} {o : Obj}
open PySem.W PySem.Calls Builtin in
theorem dict_declines {T : String} {u : Value} {Q : Value → Shared → Prop} (ta : s.TypeIs (.ref a) "dict") (tu : s.TypeIs u T) (sub : isSubtype (.type T) (.type "dict") = pure false) (q : Q .notImplemented s) : wpAny (model prog w) A (call (.builtin "dict.__eq__") [.ref a, u]) Q E s := by
  refine wpAny_call_entry PySem.F.slot_dict_eq ta PySem.F.entry_dict_eq ?_ (PySem.F.args_dict_eq_2 _ _)
  show wpAny _ _ (Builtin.Dict.dictSlotArgs "__eq__" ⟨[.ref a, u], []⟩ >>= _) _ _ s
  refine wpAny_bind ?_
  unfold Builtin.Dict.dictSlotArgs
  refine wpAny_bind (wpAny_notOrdered_dict ta ?_)
  show wpAny _ _ (pure (Value.ref a, u)) _ _ s
  refine wpAny_pure ?_
  refine wpAny_bind (wpAny_isInstance (T := T) tu sub ?_)
  simp only [Bool.not_false, if_true]
  exact wpAny_bind (wpAny_rule (wpAny_pure ⟨_, rfl, q⟩))
open PySem.W PySem.Calls Builtin in
theorem str_call_declines {y : Str} {t : Tok} {Q : Value → Shared → Prop} (ho : s.heap.get? b = some o) (np : ∀ x u, o.data ≠ .prim (.str x u)) (q : Q .notImplemented s) : wpAny (model prog w) A (call (.builtin "str.__eq__") [.str y t, .ref b]) Q E s := by
  refine wpAny_call (codeAny_call_builtin F.slot_str_eq.plain F.entry_str_eq (F.slot_str_eq.check _ _ _ _ _ _ _ _ (typeIs_str s y t) (F.args_str_eq_2 _ _) ?_))
  show wpAny _ _ (Builtin.Str.strCompare "__eq__" (· == ·) ⟨[.str y t, .ref b], []⟩) _ _ _
  unfold Builtin.Str.strCompare
  refine wpAny_bind (wpAny_of_eq (a := ((Value.str y t : Value), y, [Value.ref b])) (by rfl) ?_)
  have as_ : wpAny (model prog w) (A.under (.builtin "str.__eq__" ⟨[.str y t, .ref b], []⟩)) (asStr? (.ref b)) (fun r s' => r = none ∧ s' = s) (fun _ _ => False) s := by
    obtain ⟨hh, g, d, tt, os⟩ := s
    unfold asStr?
    refine wpAny_bind (wpAny_load ho ?_)
    cases e : o.data with
    | prim v => cases v with
      | str x u => exact absurd e (np x u)
      | _ => exact wpAny_pure ⟨rfl, rfl⟩
    | _ => exact wpAny_pure ⟨rfl, rfl⟩
  refine wpAny_bind (wpAny_mono as_ (fun r s' z => ?_) (fun _ _ z => z.elim))
  obtain ⟨rfl, rfl⟩ := z
  exact wpAny_bind (wpAny_rule (wpAny_pure q))
theorem tuple_eq_declines_dict (l b : Addr) (items : Array Value) (es : Array DictEntry) (n n2 : Nat) (dd dd2 : Option Addr) (sl sl2 : Array (Option Value)) :
    Meets (Builtin.«tuple.__eq__» ⟨[.ref l, .ref b], []⟩) (fun _ R s => s.heap.get? l = some { cls := .type "tuple", dict := dd, data := .seq items n, slots := sl } ∧ s.heap.get? b = some { cls := .type "dict", dict := dd2, data := .dict es n2, slots := sl2 } ∧ R (.ok (.ret .notImplemented)) s) :=
  .of_wp fun prog w A R s h => by obtain ⟨hp, g, d, tk, os⟩ := s; obtain ⟨hl, hb, h⟩ := h; have f1 := F.sub_dict_tuple; wp_walk using wpAny_loadPart' hl, wpAny_loadPart' hb; exact ⟨_, rfl, h⟩
end
section
variable {X : Cx} {pins : List (Addr × Obj)} {σ : L2.St} {H : Hp} {s : Shared}
theorem emp_tuple (I : Inv X pins σ H s) {a p : Addr} {xs : List V} (e : H a = some (.dK [])) (ht : SqT X.K H p xs) (hu : X.A.units < cLine) {Q : Value → Shared → Prop} {E : Value → Shared → Prop} (q : Q (.bool false) s) : wpAny (model X.prog X.w) X.A (richCompare .Eq (.ref a) (.ref p)) Q E s := by
  obtain ⟨_, o, ep, ho, hc, hd⟩ := emp_at I e
  obtain ⟨its, rv, ⟨o2, ho2, hc2, n, hd2⟩, _⟩ := I.tuple ht
  have hne : a ≠ p := fun z => by
    subst z
    rw [ho] at ho2
    cases ho2
    rw [hc] at hc2
    exact absurd hc2 (by intro z; injection z with z; exact absurd z (by decide))
  obtain ⟨cls, dd, data, sl⟩ := o
  obtain ⟨cls2, dd2, data2, sl2⟩ := o2
  simp only at hc hd hc2 hd2
  subst hc hd hc2 hd2
  exact rc_eq_decline_or (k := false) ⟨_, ho, rfl⟩ ⟨_, ho2, rfl⟩ (by decide) F.sub_tuple_dict F.slot_dict_eq F.slot_tuple_eq_refl
    (fun _ hq => dict_declines ⟨_, ho, rfl⟩ ⟨_, ho2, rfl⟩ F.sub_tuple_dict hq)
    (fun _ hq => call_meets F.slot_tuple_eq_refl ⟨_, ho2, rfl⟩ F.entry_tuple_eq (F.args_tuple_eq_2 _ _) (tuple_eq_declines_dict p a _ _ n ep dd2 dd sl2 sl) ⟨ho2, ho, hq⟩)
    (fun _ hq => wpAny_isSame_ref_other hne ho ho2 (by simp) hq) (.inr hu) q
theorem str_emp (I : Inv X pins σ H s) {A : Around} {a : Addr} (e : H a = some (.dK [])) (hu : A.units < cLine) {y : Str} {t : Tok} : PySem.SeqAt.EqAt A s (.str y t) (.ref a) false := by
  obtain ⟨_, o, ep, ho, hc, hd⟩ := emp_at I e
  intro prog w E Q h
  unfold eqBool
  refine wpAny_holding ?_
  refine wpAny_ite_split (fun hab => absurd (eq_of_beq hab) nofun) (fun _ => ?_)
  refine wpAny_bind (rc_eq_decline_or (k := false) (typeIs_str s y t) ⟨_, ho, hc⟩ (by decide) F.sub_dict_str F.slot_str_eq F.slot_dict_eq_refl
    (fun _ hq => str_call_declines ho (fun x u z => by rw [hd] at z; cases z) hq)
    (fun _ hq => dict_declines ⟨_, ho, hc⟩ (typeIs_str s y t) F.sub_str_dict hq)
    (fun _ hq => wpAny_of_eq (rfl : isSame (.str y t) (.ref a) = pure false) hq) (.inr hu) (wpAny_truthy_bool h))
def rEqEmp (K : PySem.W.Frag) : R2 := fun x y H Q => ∃ a p xs, x = .ref a ∧ y = .ref p ∧ H a = some (.dK []) ∧ SqT K H p xs ∧ Q (.bl false) H
theorem op_eqEmp (hu : X.A.units < cLine) : OpR X (compareOp .Eq) (rEqEmp X.K) := by
  intro pins s σ H x y v u Q I rx ry h
  obtain ⟨a, p, xs, rfl, rfl, e, ht, q⟩ := h
  cases (show v = Value.ref a from rx)
  cases (show u = Value.ref p from ry)
  exact emp_tuple I e ht hu ⟨.bl false, H, I, rfl, q⟩
def rNotInEmp (K : PySem.W.Frag) : R2 := fun x y H Q => ∃ a p, ∃ ys : List Str, x = .ref a ∧ y = .ref p ∧ H a = some (.dK []) ∧ SqT K H p (ys.map V.str) ∧ Q (.bl true) H
theorem op_notInEmp (hu : X.A.units + 1 < cLine) : OpR X (compareOp .NotIn) (rNotInEmp X.K) := by
  intro pins s σ H x y v u Q I rx ry h
  obtain ⟨a, p, ys, rfl, rfl, e, ht, q⟩ := h
  cases (show v = Value.ref a from rx)
  cases (show u = Value.ref p from ry)
  obtain ⟨its, rv, tup, _⟩ := I.tuple ht
  have sa := strs_are rv
  have mem : ∀ {us : List Value} {zs : List Str}, StrsAre us zs → ∀ y ∈ us, ∃ z t, y = Value.str z t := by
    intro us zs h
    induction h with
    | nil => intro y hy; cases hy
    | cons z t r ih => intro y hy; rcases List.mem_cons.mp hy with rfl | hy; exact ⟨_, _, rfl⟩; exact ih y hy
  refine SeqAt.notIn_tupleAt (fun _ => false) tup (fun y hy => ?_) ?_
  · obtain ⟨z, t, rfl⟩ := mem sa y (by simpa using hy)
    exact str_emp I e (by show X.A.units + 1 < cLine; exact hu)
  · rw [show (Array.any _ (fun _ => false)) = false by simp]
    exact ⟨.bl true, H, I, rfl, q⟩
theorem op_notInG3 {CX : CXT} {k : Nat} {C : Addr} {sp : Sp} {E : XK} {ys : List Str} (hu : X.A.units + 66 < cLine) (h : HasM X.prog X.w X.K X.mg X.base CX C "__eq__" k ["self", "other"] sp) (sub : PySem.W.subIn X.K (.ref C) (.type "str") = some false) (g : Gd X.A) (hr : Room (k + 1) X.A) (hx : Passes CX X E) :
    OpR X (compareOp .NotIn) (fun x y H Q => (rNotInQ X.K x y H Q ∨ rNotInO C sp E ys X.K x y H Q) ∨ rNotInEmp X.K x y H Q) := op_or (op_notInG hu h sub g hr hx) (op_notInEmp (by omega))
end
end GL
namespace K07
open PySem PySem.Spec PyProof.Rows L2 GL PySem.GLE LamX
def topS (i : Nat) : Stmt := PySem.Challenge.pw_grownlines_k07_errors_of_grids.main.body.getD i (.Pass ⟨0, 0, 0, 0⟩)
abbrev s__law_met : Stmt := topS 39
abbrev N__law_met : List Str := ["_law_call", "e"]
theorem sc__law_met : FnScope N__law_met ["_law_call"] (defScope s__law_met) := ⟨rfl, rfl, rfl, by decide +kernel, rfl, by decide +kernel, by decide +kernel⟩
/-- the five classes that are caught, and the two __init__ -/
structure Cs where
  (G P O N Q iN iQ : Addr)
theorem takes_len {X : Cx} {W : WX} (tk : Takes X W) : Takes X (fun cls d σ H => σ.length = X.N.length → W cls d σ H) := fun u s' ⟨a, B, sI, pins, σ, H, cls, d, e, I, nb, up, sky, na, os, ag, w⟩ =>
  tk u s' ⟨a, B, sI, pins, σ, H, cls, d, e, I, nb, up, sky, na, os, ag, w I.len⟩
/-- a value that can be shown -/
structure Sh (K : PySem.W.Frag) (H : Hp) (v : V) (d : PyData) : Prop where
  rp : (Dp K H v d ∧ d.showable = true ∧ d.hasDict = false) ∨ ∃ a, v = .ref a ∧ Dq K H v d
  dep : d.depth ≤ 3
  len : d.shown.length ≤ 31000
theorem Sh.lenS {K : PySem.W.Frag} {H : Hp} {v : V} {d : PyData} (h : Sh K H v d) : d.shown.length ≤ sizeLine := Nat.le_trans h.len (by rw [sizeLine_eq]; decide)
theorem Sh.same {K : PySem.W.Frag} {H H' : Hp} {v : V} {d : PyData} (h : Sh K H v d) (s : Same H H') : Sh K H' v d :=
  ⟨h.rp.imp (fun ⟨a, b, c⟩ => ⟨dp_same s a, b, c⟩) (fun ⟨a, b, c⟩ => ⟨a, b, dq_same s c⟩), h.dep, h.len⟩
/-- what an error that leaves the call is told as -/
inductive MetW (K : PySem.W.Frag) (c : Cs) (H : Hp) : Value → Option Addr → Str → Prop
  | grid (d : Option Addr) : MetW K c H (.ref c.G) d "grid"
  | point (d : Option Addr) : MetW K c H (.ref c.P) d "point"
  | op (d : Option Addr) : MetW K c H (.ref c.O) d "operation"
  | num {d : Addr} {v : V} {dv : PyData} : H d = some (.xd [("value", v)]) → Sh K H v dv → MetW K c H (.ref c.N) (some d) ("number " ++ dv.shown)
  | quo {d : Addr} {v : V} {dv : PyData} : H d = some (.xd [("divisor", v)]) → Sh K H v dv → MetW K c H (.ref c.Q) (some d) ("quotient " ++ dv.shown)
/-- what is told of a call that may raise -/
def TMet (K : PySem.W.Frag) (c : Cs) : (XK → Hp → VK → Prop) → Hp → VK → Prop := fun tl H Q =>
  tl (fun cls d H' => ∃ w, MetW K c H' cls d w ∧ Q (.str w) H') H (fun _ H' => Q (.str "") H')
structure MetT (K : PySem.W.Frag) (mg : Str → Option Value) (c : Cs) : Prop where
  zrepr : mg "repr" = none
  gG : mg "InvalidGrid" = some (.ref c.G)
  gP : mg "InvalidPoint" = some (.ref c.P)
  gO : mg "InvalidOperation" = some (.ref c.O)
  eN : ErrTxt K mg "InvalidNumber" "value" c.N c.iN
  eQ : ErrTxt K mg "NoQuotient" "divisor" c.Q c.iQ
  x : ∀ D ∈ [c.G, c.P, c.O, c.N, c.Q], ∀ D' ∈ [c.G, c.P, c.O, c.N, c.Q], PySem.W.exmOne K (.ref D) (.ref D') = some (decide (D = D'))
  nd : [c.G, c.P, c.O, c.N, c.Q].Nodup
def rAdS : R2 := fun x y H Q => ∃ i j, x = .str i ∧ y = .str j ∧ i.length + j.length ≤ sizeLine ∧ Q (.str (i ++ j)) H
def tsW (t : Str) : Addr → Value → Option Addr → TS := fun _ _ _ => tRet (tC (.str t))
def tsV (K : PySem.W.Frag) (C : Addr) (f pre : Str) : Addr → Value → Option Addr → TS := fun a cls d => tRet (tOp rAdS (tC (.str pre)) (tCB (rReprQ K) (tCons (tXf a cls d C f (tVar 1)) tNil)))
def clauses (K : PySem.W.Frag) (c : Cs) : List Cls1 := [⟨.ref c.G, none, tsW "grid"⟩, ⟨.ref c.P, none, tsW "point"⟩, ⟨.ref c.O, none, tsW "operation"⟩, ⟨.ref c.N, some 1, tsV K c.N "value" "number "⟩, ⟨.ref c.Q, some 1, tsV K c.Q "divisor" "quotient "⟩]
section
variable {K : PySem.W.Frag} {mg : Str → Option Value} {c : Cs}
theorem met_wish (T : MetT K mg c) {cls : Value} {d : Option Addr} {w : Str} {H : Hp} {σ : L2.St} {D : Ends} (m : MetW K c H cls d w) (l : σ.length = 2) (q : D.rt (.str w) H) : wCls K (fun _ _ _ _ => False) D (clauses K c) cls d σ H := by
  have nd := T.nd
  simp only [List.nodup_cons, List.mem_cons, List.not_mem_nil, or_false, not_or] at nd
  obtain ⟨⟨n1, n2, n3, n4⟩, ⟨n5, n6, n7⟩, ⟨n8, n9⟩, n10, _⟩ := nd
  have ex : ∀ {A B : Addr}, A ∈ [c.G, c.P, c.O, c.N, c.Q] → B ∈ [c.G, c.P, c.O, c.N, c.Q] → A ≠ B → PySem.W.exmOne K (.ref A) (.ref B) = some false := fun a b n => by rw [T.x _ a _ b, decide_eq_false n]
  have es : ∀ {A : Addr}, A ∈ [c.G, c.P, c.O, c.N, c.Q] → PySem.W.exmOne K (.ref A) (.ref A) = some true := fun a => by rw [T.x _ a _ a, decide_eq_true rfl]
  have set1 : ∀ a : Addr, (σ.set 1 (some (V.ref a)))[1]? = some (some (.ref a)) := fun a => by
    rw [List.getElem?_set_self (by omega)]
  have lq : ("quotient " : Str).length = 9 := by decide
  have ln : ("number " : Str).length = 7 := by decide
  cases m with
  | grid d => exact ⟨true, es (by simp), fun _ a _ => q, fun z => nomatch z⟩
  | point d => exact ⟨false, ex (by simp) (by simp) (Ne.symm n1), (fun z => nomatch z), fun _ => ⟨true, es (by simp), fun _ a _ => q, fun z => nomatch z⟩⟩
  | op d => exact ⟨false, ex (by simp) (by simp) (Ne.symm n2), (fun z => nomatch z), fun _ => ⟨false, ex (by simp) (by simp) (Ne.symm n5), (fun z => nomatch z), fun _ => ⟨true, es (by simp), fun _ a _ => q, fun z => nomatch z⟩⟩⟩
  | num e v =>
    have lv := v.len
    exact ⟨false, ex (by simp) (by simp) (Ne.symm n3), (fun z => nomatch z), fun _ => ⟨false, ex (by simp) (by simp) (Ne.symm n6), (fun z => nomatch z), fun _ => ⟨false, ex (by simp) (by simp) (Ne.symm n8), (fun z => nomatch z), fun _ => ⟨true, es (by simp), fun _ a _ =>
      ⟨_, set1 a, rfl, rfl, _, _, _, rfl, e, by simp [List.lookup], _, _, rfl, v.rp, Nat.le_trans v.dep (by decide), v.lenS, _, _, rfl, rfl, by rw [ln, sizeLine_eq]; omega, q⟩, fun z => nomatch z⟩⟩⟩⟩
  | quo e v =>
    have lv := v.len
    exact ⟨false, ex (by simp) (by simp) (Ne.symm n4), (fun z => nomatch z), fun _ => ⟨false, ex (by simp) (by simp) (Ne.symm n7), (fun z => nomatch z), fun _ => ⟨false, ex (by simp) (by simp) (Ne.symm n9), (fun z => nomatch z), fun _ => ⟨false, ex (by simp) (by simp) (Ne.symm n10), (fun z => nomatch z), fun _ => ⟨true, es (by simp), fun _ a _ =>
      ⟨_, set1 a, rfl, rfl, _, _, _, rfl, e, by simp [List.lookup], _, _, rfl, v.rp, Nat.le_trans v.dep (by decide), v.lenS, _, _, rfl, rfl, by rw [lq, sizeLine_eq]; omega, q⟩, fun z => nomatch z⟩⟩⟩⟩⟩
theorem met_gives {X : Cx} (T : MetT X.K X.mg c) (dig : PySem.W.nsIn X.K cStatics "sys.int_max_str_digits" = some none) (gd : Gd X.A) {k : Nat} (hr : Room k X.A) {g : Addr} {cdg : Value} {q : Str} :
    GivesTo X N__law_met "_law_met" (defScope s__law_met) g cdg (defBody s__law_met) "_law_call" q (TMet X.K c) := by
  intro f c' s H Q tl act hc h
  have hu : (cxOf C8.CX0 X.prog X.w X.K X.mg X.base N__law_met "_law_met" (defScope s__law_met) g cdg X.A X.stack s H C8.E0).nox.A.units + 64 < cLine := by
    have := hr.un
    show X.A.units + 3 + 64 < cLine
    omega
  have gd2 : Gd (cxOf C8.CX0 X.prog X.w X.K X.mg X.base N__law_met "_law_met" (defScope s__law_met) g cdg X.A X.stack s H C8.E0).nox.A := gd
  refine ⟨_, pss_cons (ps_clauses (X := (cxOf C8.CX0 X.prog X.w X.K X.mg X.base N__law_met "_law_met" (defScope s__law_met) g cdg X.A X.stack s H C8.E0).nox) (W0 := fun _ _ _ _ => False) (l := clauses X.K c)
      (tb := fun W D σ H => ∃ Ech : XK, (∀ cls d σ' H', σ'.length = 2 → Ech cls d H' → W cls d σ' H') ∧ σ[0]? = some (some (.ref f)) ∧ H c' = some (CodeO c' q) ∧ tl Ech H (fun _ H1 => D.nx σ H1))
      rfl rfl takes_none5 (fun W pn xe tk _ => ?_)
      (.bare ⟨rfl, by decide, .inl T.gG⟩ (fun a oe cls d pn hz hf => pss_one (ps_ret pe_str)) (.bare ⟨rfl, by decide, .inl T.gP⟩ (fun a oe cls d pn hz hf => pss_one (ps_ret pe_str)) (.bare ⟨rfl, by decide, .inl T.gO⟩ (fun a oe cls d pn hz hf => pss_one (ps_ret pe_str))
      (.named ⟨rfl, by decide, .inl T.eN.gC⟩ sc__law_met.nd rfl rfl (fun a oe cls d pn hz hf => pss_one (ps_ret (pe_op op_add_str pe_str (pe_callB (call_reprQ dig gd2 hu) (by exact rfl) T.zrepr (by decide +kernel) (pa_cons (pe_xf ⟨T.eN.ga, T.eN.gg, T.eN.exC, T.eN.hdC⟩ T.eN.noN hz hf (pv 1)) pa_nil)))))
      (.named ⟨rfl, by decide, .inl T.eQ.gC⟩ sc__law_met.nd rfl rfl (fun a oe cls d pn hz hf => pss_one (ps_ret (pe_op op_add_str pe_str (pe_callB (call_reprQ dig gd2 hu) (by exact rfl) T.zrepr (by decide +kernel) (pa_cons (pe_xf ⟨T.eQ.ga, T.eQ.gg, T.eQ.exC, T.eQ.hdC⟩ T.eQ.noN hz hf (pv 1)) pa_nil)))))
      .nil))))))
    (pss_one (ps_ret pe_str)), ?_⟩
  · refine ⟨fun pins s' σ H' D I h' => ?_⟩
    obtain ⟨Ech, toW, h1, h2, h3⟩ := h'
    have tk2 := takes_len tk
    have hp := fun p1 p2 => act _ pn xe Ech p1 p2 tk2 (fun cls d σ' H' e l => toW cls d σ' H' l e)
    exact (pss_one (ps_expr (hp _ _))).run pins s' σ H' D I ⟨h1, h2, h3⟩
  · exact ⟨fun cls d H' => ∃ w, MetW X.K c H' cls d w ∧ Q (.str w) H', fun cls d σ' H' l ⟨w, m, qw⟩ => met_wish T m l qw, rfl, hc, h⟩
end
end K07
namespace K07
open PySem PySem.Spec PyProof.Rows L2 GL PySem.GLE LamX
abbrev s_times : Stmt := topS 4
abbrev N_times : List Str := ["grid", "one", "other", "low"]
theorem sc_times : FnScope N_times ["grid", "one", "other"] (defScope s_times) := ⟨rfl, rfl, rfl, by decide +kernel, rfl, by decide +kernel, by decide +kernel⟩
abbrev s_norm_in : Stmt := topS 5
abbrev N_norm_in : List Str := ["grid", "point"]
theorem sc_norm_in : FnScope N_norm_in ["grid", "point"] (defScope s_norm_in) := ⟨rfl, rfl, rfl, by decide +kernel, rfl, by decide +kernel, by decide +kernel⟩
abbrev s_flipped : Stmt := topS 6
abbrev N_flipped : List Str := ["grid", "point"]
theorem sc_flipped : FnScope N_flipped ["grid", "point"] (defScope s_flipped) := ⟨rfl, rfl, rfl, by decide +kernel, rfl, by decide +kernel, by decide +kernel⟩
abbrev s_turned_by : Stmt := topS 7
abbrev N_turned_by : List Str := ["grid", "point", "turn"]
theorem sc_turned_by : FnScope N_turned_by ["grid", "point", "turn"] (defScope s_turned_by) := ⟨rfl, rfl, rfl, by decide +kernel, rfl, by decide +kernel, by decide +kernel⟩
abbrev s_divided : Stmt := topS 8
abbrev N_divided : List Str := ["grid", "point", "divisor", "norm", "raw"]
theorem sc_divided : FnScope N_divided ["grid", "point", "divisor"] (defScope s_divided) := ⟨rfl, rfl, rfl, by decide +kernel, rfl, by decide +kernel, by decide +kernel⟩
abbrev s_is_integer : Stmt := topS 14
abbrev N_is_integer : List Str := ["value"]
theorem sc_is_integer : FnScope N_is_integer ["value"] (defScope s_is_integer) := ⟨rfl, rfl, rfl, by decide +kernel, rfl, by decide +kernel, by decide +kernel⟩
abbrev s_is_point : Stmt := topS 15
abbrev N_is_point : List Str := ["value"]
theorem sc_is_point : FnScope N_is_point ["value"] (defScope s_is_point) := ⟨rfl, rfl, rfl, by decide +kernel, rfl, by decide +kernel, by decide +kernel⟩
abbrev s__check_point : Stmt := topS 28
abbrev N__check_point : List Str := ["point"]
theorem sc__check_point : FnScope N__check_point ["point"] (defScope s__check_point) := ⟨rfl, rfl, rfl, by decide +kernel, rfl, by decide +kernel, by decide +kernel⟩
abbrev s__check_number : Stmt := topS 29
abbrev N__check_number : List Str := ["number"]
theorem sc__check_number : FnScope N__check_number ["number"] (defScope s__check_number) := ⟨rfl, rfl, rfl, by decide +kernel, rfl, by decide +kernel, by decide +kernel⟩
abbrev s_Grid_unit : Stmt := inClass (topS 30) 1
abbrev N_Grid_unit : List Str := ["self", "direction"]
theorem sc_Grid_unit : FnScope N_Grid_unit ["self", "direction"] (defScope s_Grid_unit) := ⟨rfl, rfl, rfl, by decide +kernel, rfl, by decide +kernel, by decide +kernel⟩
abbrev s_Grid_direction_of : Stmt := inClass (topS 30) 2
abbrev N_Grid_direction_of : List Str := ["self", "point"]
theorem sc_Grid_direction_of : FnScope N_Grid_direction_of ["self", "point"] (defScope s_Grid_direction_of) := ⟨rfl, rfl, rfl, by decide +kernel, rfl, by decide +kernel, by decide +kernel⟩
abbrev s_Grid_product : Stmt := inClass (topS 30) 3
abbrev N_Grid_product : List Str := ["self", "one", "other"]
theorem sc_Grid_product : FnScope N_Grid_product ["self", "one", "other"] (defScope s_Grid_product) := ⟨rfl, rfl, rfl, by decide +kernel, rfl, by decide +kernel, by decide +kernel⟩
abbrev s_Grid_norm_of : Stmt := inClass (topS 30) 4
abbrev N_Grid_norm_of : List Str := ["self", "point"]
theorem sc_Grid_norm_of : FnScope N_Grid_norm_of ["self", "point"] (defScope s_Grid_norm_of) := ⟨rfl, rfl, rfl, by decide +kernel, rfl, by decide +kernel, by decide +kernel⟩
abbrev s_Grid_conjugate_of : Stmt := inClass (topS 30) 5
abbrev N_Grid_conjugate_of : List Str := ["self", "point"]
theorem sc_Grid_conjugate_of : FnScope N_Grid_conjugate_of ["self", "point"] (defScope s_Grid_conjugate_of) := ⟨rfl, rfl, rfl, by decide +kernel, rfl, by decide +kernel, by decide +kernel⟩
abbrev s_Grid_turned : Stmt := inClass (topS 30) 6
abbrev N_Grid_turned : List Str := ["self", "point", "turn"]
theorem sc_Grid_turned : FnScope N_Grid_turned ["self", "point", "turn"] (defScope s_Grid_turned) := ⟨rfl, rfl, rfl, by decide +kernel, rfl, by decide +kernel, by decide +kernel⟩
abbrev s_Grid_quotient : Stmt := inClass (topS 30) 7
abbrev N_Grid_quotient : List Str := ["self", "point", "divisor"]
theorem sc_Grid_quotient : FnScope N_Grid_quotient ["self", "point", "divisor"] (defScope s_Grid_quotient) := ⟨rfl, rfl, rfl, by decide +kernel, rfl, by decide +kernel, by decide +kernel⟩
section
variable {P : Program} {w : World} {K : PySem.W.Frag} {mg : Str → Option Value} {base : Heap}
theorem _root_.GL.Df.hasX {x : Str} {st : Stmt} {N ps : List Str} {k : Nat} {sp : Sp} (D : Df K mg x st) (S : FnScope N ps (defScope st)) (len : ∀ vs H Q E, sp vs H Q E → vs.length = ps.length)
    (bi : ∀ (kV doc pm : Value) (an : Option Addr) (cdv ct : Value) (us : List Value), us.length = ps.length → bindArgs (PySem.W.fnOf x x (defArgs st) (defBody st) (defScope st) .none kV doc pm an cdv ct) ⟨us, []⟩ = pure (ps.zip us))
    (body : ∀ (f : Addr) (cdv : Value) (A : Around) (outer : List Env) (s : Shared) (H : Hp) (vs : List V) (Q : VK) (E : XK), Gd (A.deeper (envOfC x (defScope st) s.heap.objs.size f cdv)) → Room k (A.deeper (envOfC x (defScope st) s.heap.objs.size f cdv)) → sp vs H Q E →
      ∃ t, PSs (cxOf (L2.CX P w) P w K mg base N x (defScope st) f cdv A outer s H E) (defBody st) t ∧ t { nx := fun _ H' => Q .non H', rt := Q } (start N vs) H) : Has P w K mg base (L2.CX P w) x (k + 1) ps sp := by
  obtain ⟨f, fd, F, m⟩ := D.ex
  exact ⟨f, fd, fnG_mk F S len (body f), m, F.kp, F.binds bi⟩
theorem _root_.GL.Dm.hasX {C : Addr} {m qual : Str} {st : Stmt} {N ps : List Str} {k : Nat} {sp : Sp} (D : Dm K C m qual st) (S : FnScope N ps (defScope st)) (len : ∀ vs H Q E, sp vs H Q E → vs.length = ps.length)
    (bi : ∀ (kV doc pm : Value) (an : Option Addr) (cdv ct : Value) (us : List Value), us.length = ps.length → bindArgs (PySem.W.fnOf m qual (defArgs st) (defBody st) (defScope st) .none kV doc pm an cdv ct) ⟨us, []⟩ = pure (ps.zip us))
    (body : ∀ (f : Addr) (cdv : Value) (A : Around) (outer : List Env) (s : Shared) (H : Hp) (vs : List V) (Q : VK) (E : XK), Gd (A.deeper (envOfC qual (defScope st) s.heap.objs.size f cdv)) → Room k (A.deeper (envOfC qual (defScope st) s.heap.objs.size f cdv)) → sp vs H Q E →
      ∃ t, PSs (cxOf (L2.CX P w) P w K mg base N qual (defScope st) f cdv A outer s H E) (defBody st) t ∧ t { nx := fun _ H' => Q .non H', rt := Q } (start N vs) H) : HasM P w K mg base (L2.CX P w) C m (k + 1) ps sp := by
  obtain ⟨f, fd, F, M⟩ := D.ex
  exact ⟨f, fd, fnG_mk F S len (body f), M, F.binds bi⟩
end
structure Msg (K : PySem.W.Frag) (mg : Str → Option Value) (x : Str) (C : Addr) : Prop where
  q : PySem.W.excIn K C [.type "ValueError", .type "Exception", .type "BaseException", .type "object"] "ValueError.__new__" = true
  g : mg x = some (.ref C)
  k : PySem.W.keepIn K (.ref C) = true
  b : PySem.W.subIn K (.ref C) (.type "BaseException") = some true
  t : PySem.W.typeIn K (.ref C) = some (.type "type")
structure Txt (K : PySem.W.Frag) (mg : Str → Option Value) (aG dU C CV CM : Addr) (c : Cs) : Prop where
  zisinstance : mg "isinstance" = none
  zbool : mg "bool" = none
  zint : mg "int" = none
  ztuple : mg "tuple" = none
  zlen : mg "len" = none
  zmax : mg "max" = none
  zmin : mg "min" = none
  zabs : mg "abs" = none
  zrange : mg "range" = none
  zrepr : mg "repr" = none
  zset : mg "set" = none
  g_BOUND : MgV mg "_BOUND" (.int B)
  gMAX_POWER : MgV mg "MAX_POWER" (.int 1000)
  gGRIDS : MgV mg "GRIDS" (.ref aG)
  g_UNITS : MgV mg "_UNITS" (.ref dU)
  gGrid : MgV mg "Grid" (.ref C)
  gVector : MgV mg "Vector" (.ref CV)
  gMade : MgV mg "MadeVector" (.ref CM)
  mInvalidGrid : Msg K mg "InvalidGrid" c.G
  mInvalidPoint : Msg K mg "InvalidPoint" c.P
  mInvalidOperation : Msg K mg "InvalidOperation" c.O
  eInvalidNumber : ErrTxt K mg "InvalidNumber" "value" c.N c.iN
  eNoQuotient : ErrTxt K mg "NoQuotient" "divisor" c.Q c.iQ
/-- what a wrong number, a wrong point leaves -/
def BadN (c : Cs) (H : Hp) (x : V) (E : XK) : Prop := ∀ d, H d = none → E (.ref c.N) (some d) (upd H d (.xd [("value", x)]))
/-- a point or none, an object of ours among them -/
def PtG (K : PySem.W.Frag) (H : Hp) (x : V) (r : Bool) : Prop := PtV K H x r ∨ (r = false ∧ ∃ T, TyX K H x T ∧ PySem.W.kitOne K T (.type "tuple") = some false)
def spIsPt (K : PySem.W.Frag) : Sp := fun vs H Q _ => ∃ x r, vs = [x] ∧ PtG K H x r ∧ Q (.bl r) H
def spCheckPX (K : PySem.W.Frag) (c : Cs) : Sp := fun vs H Q E => ∃ x r, vs = [x] ∧ PtG K H x r ∧ (r = true → Q .non H) ∧ (r = false → E (.ref c.P) none H)
def spCheckNX (K : PySem.W.Frag) (c : Cs) : Sp := fun vs H Q E => ∃ x k, vs = [x] ∧ Of K H x k ∧ (isIntV x = true → Q .non H) ∧ (isIntV x = false → BadN c H x E)
theorem int_of {x : V} (h : isIntV x = true) : ∃ n, x = .int n := by
  cases x <;> first | exact ⟨_, rfl⟩ | (cases (show false = true from h))
theorem pt_real {K : PySem.W.Frag} {H : Hp} {x : V} (h : PtG K H x true) : ∃ a u, x = .ref a ∧ PAt K H a u ∧ ptOk u := by
  rcases h with ⟨k, hk, c0, c1⟩ | ⟨z, _⟩
  case inr => cases z
  cases e : k.isT with
  | false => exact absurd (c0 e) (by decide)
  | true =>
    obtain ⟨a, xs, rfl, hx, lx, n2, y2⟩ := c1 e
    by_cases h2 : xs.length = 2
    · obtain ⟨u, v, ku, kv, rfl, hu, hv, er⟩ := y2 h2
      have er2 := er.symm
      rw [Bool.and_eq_true] at er2
      obtain ⟨n, rfl⟩ := int_of er2.1
      obtain ⟨m, rfl⟩ := int_of er2.2
      exact ⟨a, (n, m), rfl, hx, er2.1, er2.2⟩
    · exact absurd (n2 h2) (by decide)
section
variable {P : Program} {w : World} {K : PySem.W.Frag} {mg : Str → Option Value} {base : Heap}
variable {aG dU C CV CM : Addr} {U : Bool → Addr} {us : Bool → List Addr} {cs : Cs}
theorem h_check_point (T : Txt K mg aG dU C CV CM cs) (D : Df K mg "_check_point" s__check_point) (his_point : Has P w K mg base CX0 "is_point" 2 ["value"] (spIsPt K)) : Has P w K mg base (L2.CX P w) "_check_point" 3 ["point"] (spCheckPX K cs) := by
  refine D.hasX sc__check_point (fun vs H Q E h => ?_) (fun kV doc pm an cdv ct us hl => match us, hl with | [_], _ => rfl) (fun f cdv A outer s H vs Q E gd hr h => ?_)
  · obtain ⟨x, r, rfl, _⟩ := h
    rfl
  · obtain ⟨x, r, rfl, pt, k1, k0⟩ := h
    refine ⟨_, (pss_one
 (ps_if (pt_not (pt_val (pe_callH his_point gd (hr.mono (by decide)) pass0 (pa_cons (pv 0) pa_nil)))) (pss_one
 (ps_raise rfl (takes_of rfl rfl rfl rfl) (pmk_own PySem.F.excBase_ValueError T.mInvalidPoint.q T.mInvalidPoint.g T.mInvalidPoint.k (raises_own T.mInvalidPoint.b T.mInvalidPoint.t) rfl))) pss_nil)), ?_⟩
    refine ⟨_, rfl, _, r, rfl, pt, _, rfl, ?_⟩
    cases r with
    | true => exact iteF (k1 rfl)
    | false => exact iteT (k0 rfl)
theorem h_check_number (T : Txt K mg aG dU C CV CM cs) (D : Df K mg "_check_number" s__check_number) (his_integer : Has P w K mg base CX0 "is_integer" 1 ["value"] (spIsInt K)) : Has P w K mg base (L2.CX P w) "_check_number" 2 ["number"] (spCheckNX K cs) := by
  refine D.hasX sc__check_number (fun vs H Q E h => ?_) (fun kV doc pm an cdv ct us hl => match us, hl with | [_], _ => rfl) (fun f cdv A outer s H vs Q E gd hr h => ?_)
  · obtain ⟨x, k, rfl, _⟩ := h
    rfl
  · obtain ⟨x, kd, rfl, o, k1, k0⟩ := h
    refine ⟨_, (pss_one
 (ps_if (pt_not (pt_val (pe_callH his_integer gd (hr.mono (by decide)) pass0 (pa_cons (pv 0) pa_nil)))) (pss_one
 (ps_raise rfl (takes_of rfl rfl rfl rfl) (pmk_err T.eInvalidNumber hr (pa_cons (pv 0) pa_nil)))) pss_nil)), ?_⟩
    refine ⟨_, rfl, _, kd, rfl, o, _, rfl, ?_⟩
    cases e : isIntV x with
    | true => exact iteF (k1 e)
    | false => exact iteT ⟨_, rfl, _, rfl, fun d nd => k0 e d nd⟩
theorem slm {t : Bool} {x : Int} (h : x.natAbs < 2 ^ 3000) : (sl t * x).natAbs < 2 ^ 3001 := by
  cases t
  · show (0 * x).natAbs < _; rw [Int.zero_mul]; decide
  · show (1 * x).natAbs < _; rw [Int.one_mul]; exact Nat.lt_of_lt_of_le h (by decide)

theorem h_times (c : GCls K C) (D : Df K mg "times" s_times) : Has P w K mg base CX0 "times" 1 ["grid", "one", "other"] (spTimes K C U) := by
  refine D.has sc_times (fun vs H Q E h => ?_) (fun kV doc pm an cdv ct us hl => match us, hl with | [_, _, _], _ => rfl) (fun f cdv A outer s H vs Q E gd hr h => ?_)
  · obtain ⟨g, t, a, b, u, v, rfl, _⟩ := h
    rfl
  · obtain ⟨g, t, a, b, u, v, rfl, ⟨dx, eg⟩, pu, pv', su, sv, k⟩ := h
    refine ⟨_, (pss_cons
 (ps_set (i := 3) sc_times.nd rfl (Or.inl rfl) (pe_op op_mulW (pe_ix ix_tup (pv 1) pe_int (fun _ _ => rfl)) (pe_ix ix_tup (pv 2) pe_int (fun _ _ => rfl))))
 (pss_one
 (ps_ret (pe_tup (pa_cons (pe_op op_sub (pe_op op_mulW (pe_ix ix_tup (pv 1) pe_int (fun _ _ => rfl)) (pe_ix ix_tup (pv 2) pe_int (fun _ _ => rfl))) (pv 3)) (pa_cons (pe_op op_add (pe_op op_add (pe_op op_mulW (pe_ix ix_tup (pv 1) pe_int (fun _ _ => rfl)) (pe_ix ix_tup (pv 2) pe_int (fun _ _ => rfl))) (pe_op op_mulW (pe_ix ix_tup (pv 1) pe_int (fun _ _ => rfl)) (pe_ix ix_tup (pv 2) pe_int (fun _ _ => rfl)))) (pe_op op_mulW (pe_fld (pv 0) rfl) (pv 3))) pa_nil)))))), ?_⟩
    refine ⟨_, rfl, _, _, _, _, rfl, rfl, pu, atI_nat (j := 1) rfl, _, rfl, _, _, _, _, rfl, rfl, pv', atI_nat (j := 1) rfl, _, _, rfl, rfl, sm_mul su.2 sv.2, ?_⟩
    refine ⟨_, rfl, _, _, _, _, rfl, rfl, pu, atI_nat (j := 0) rfl, _, rfl, _, _, _, _, rfl, rfl, pv', atI_nat (j := 0) rfl, _, _, rfl, rfl, sm_mul su.1 sv.1, _, rfl, _, _, rfl, rfl, ?_⟩
    refine ⟨_, rfl, _, _, _, _, rfl, rfl, pu, atI_nat (j := 0) rfl, _, rfl, _, _, _, _, rfl, rfl, pv', atI_nat (j := 1) rfl, _, _, rfl, rfl, sm_mul su.1 sv.2, _, rfl, _, _, _, _, rfl, rfl, pu, atI_nat (j := 1) rfl, _, rfl, _, _, _, _, rfl, rfl, pv', atI_nat (j := 0) rfl, _, _, rfl, rfl, sm_mul su.2 sv.1, _, _, rfl, rfl, ?_⟩
    refine ⟨_, rfl, _, _, _, _, _, rfl, eg, c.cls, c.slant, gF_slant, _, rfl, _, _, rfl, rfl, sl_mul (by rw [Int.natAbs_mul]; exact Nat.lt_of_lt_of_le (Nat.mul_lt_mul'' su.2 sv.2) (by decide)), _, _, rfl, rfl, by show 2 ≤ sizeLine; decide, fun p hp => k p hp⟩

theorem h_norm_in (c : GCls K C) (D : Df K mg "norm_in" s_norm_in) : Has P w K mg base CX0 "norm_in" 1 ["grid", "point"] (spNorm K C U) := by
  refine D.has sc_norm_in (fun vs H Q E h => ?_) (fun kV doc pm an cdv ct us hl => match us, hl with | [_, _], _ => rfl) (fun f cdv A outer s H vs Q E gd hr h => ?_)
  · obtain ⟨g, t, a, u, rfl, _⟩ := h
    rfl
  · obtain ⟨g, t, a, u, rfl, ⟨dx, eg⟩, pu, su, k⟩ := h
    refine ⟨_, (pss_one
 (ps_ret (pe_op op_add (pe_op op_add (pe_op op_mulW (pe_ix ix_tup (pv 1) pe_int (fun _ _ => rfl)) (pe_ix ix_tup (pv 1) pe_int (fun _ _ => rfl))) (pe_op op_mulW (pe_op op_mulW (pe_fld (pv 0) rfl) (pe_ix ix_tup (pv 1) pe_int (fun _ _ => rfl))) (pe_ix ix_tup (pv 1) pe_int (fun _ _ => rfl)))) (pe_op op_mulW (pe_ix ix_tup (pv 1) pe_int (fun _ _ => rfl)) (pe_ix ix_tup (pv 1) pe_int (fun _ _ => rfl)))))), ?_⟩
    refine ⟨_, rfl, _, _, _, _, rfl, rfl, pu, atI_nat (j := 0) rfl, _, rfl, _, _, _, _, rfl, rfl, pu, atI_nat (j := 0) rfl, _, _, rfl, rfl, sm_mul su.1 su.1, ?_⟩
    refine ⟨_, rfl, _, _, _, _, _, rfl, eg, c.cls, c.slant, gF_slant, _, rfl, _, _, _, _, rfl, rfl, pu, atI_nat (j := 0) rfl, _, _, rfl, rfl, sl_mul (Nat.lt_of_lt_of_le su.1 (by decide)), ?_⟩
    refine ⟨_, rfl, _, _, _, _, rfl, rfl, pu, atI_nat (j := 1) rfl, _, _, rfl, rfl, wide_mul (a := 3001) (b := 3000) (slm su.1) su.2 (by decide) (by decide) (by decide), _, _, rfl, rfl, ?_⟩
    refine ⟨_, rfl, _, _, _, _, rfl, rfl, pu, atI_nat (j := 1) rfl, _, rfl, _, _, _, _, rfl, rfl, pu, atI_nat (j := 1) rfl, _, _, rfl, rfl, sm_mul su.2 su.2, _, _, rfl, rfl, k⟩

theorem h_flipped (c : GCls K C) (D : Df K mg "flipped" s_flipped) : Has P w K mg base CX0 "flipped" 1 ["grid", "point"] (spFlip K C U) := by
  refine D.has sc_flipped (fun vs H Q E h => ?_) (fun kV doc pm an cdv ct us hl => match us, hl with | [_, _], _ => rfl) (fun f cdv A outer s H vs Q E gd hr h => ?_)
  · obtain ⟨g, t, a, u, rfl, _⟩ := h
    rfl
  · obtain ⟨g, t, a, u, rfl, ⟨dx, eg⟩, pu, su, k⟩ := h
    refine ⟨_, (pss_one
 (ps_ret (pe_tup (pa_cons (pe_op op_add (pe_ix ix_tup (pv 1) pe_int (fun _ _ => rfl)) (pe_op op_mulW (pe_fld (pv 0) rfl) (pe_ix ix_tup (pv 1) pe_int (fun _ _ => rfl)))) (pa_cons (pe_un un_neg (pe_ix ix_tup (pv 1) pe_int (fun _ _ => rfl))) pa_nil))))), ?_⟩
    refine ⟨_, rfl, _, _, _, _, rfl, rfl, pu, atI_nat (j := 0) rfl, _, rfl, _, _, _, _, _, rfl, eg, c.cls, c.slant, gF_slant, _, rfl, _, _, _, _, rfl, rfl, pu, atI_nat (j := 1) rfl, _, _, rfl, rfl, sl_mul (Nat.lt_of_lt_of_le su.2 (by decide)), _, _, rfl, rfl, ?_⟩
    exact ⟨_, rfl, _, _, _, _, rfl, rfl, pu, atI_nat (j := 1) rfl, _, rfl, by show 2 ≤ sizeLine; decide, fun p hp => k p hp⟩

theorem h_is_integer (T : Txt K mg aG dU C CV CM cs) (D : Df K mg "is_integer" s_is_integer) : Has P w K mg base CX0 "is_integer" 1 ["value"] (spIsInt K) := by
  refine D.has sc_is_integer (fun vs H Q E h => ?_) (fun kV doc pm an cdv ct us hl => match us, hl with | [_], _ => rfl) (fun f cdv A outer s H vs Q E gd hr h => ?_)
  · obtain ⟨x, k, rfl, _⟩ := h
    rfl
  · obtain ⟨x, k, rfl, hk, q⟩ := h
    refine ⟨_, (pss_cons
 (ps_if (PW.pt (pw_or (pt_val (pe_callB call_isi (by exact rfl) T.zisinstance (by decide +kernel) (pa_cons (pv 0) (pa_cons (pe_bltn (v := .ty "bool") (by exact rfl) T.zbool (by decide +kernel) rfl) pa_nil)))) (pw_or1 (pt_not (pt_val (pe_callB call_isi (by exact rfl) T.zisinstance (by decide +kernel) (pa_cons (pv 0) (pa_cons (pe_bltn (v := .ty "int") (by exact rfl) T.zint (by decide +kernel) rfl) pa_nil)))))))) (pss_one
 (ps_ret pe_bl)) pss_nil)
 (pss_one
 (ps_ret (pe_chain op_lt op_lt (pe_un un_neg (pe_globV T.g_BOUND)) (pv 0) (pe_globV T.g_BOUND))))), ?_⟩
    refine ⟨_, rfl, _, _, _, _, _, rfl, .ty _, hk, kit_bool _, _, rfl, ?_⟩
    cases k with
    | bl =>
      obtain ⟨b, rfl⟩ := hk.blI
      exact iteT (iteT q)
    | int =>
      obtain ⟨i, rfl⟩ := hk.intI
      refine iteF ⟨_, rfl, _, _, _, _, _, rfl, .ty _, hk, kit_int _, _, rfl, iteF ⟨_, rfl, _, rfl, _, _, rfl, rfl, _, rfl, ?_⟩⟩
      by_cases h1 : -B < i
      · have e : isIntV (.int i) = decide (i < B) := by show (decide (-B < i) && decide (i < B)) = _; rw [decide_eq_true h1, Bool.true_and]
        rw [e] at q
        rw [decide_eq_true h1]
        exact iteT ⟨_, _, rfl, rfl, q⟩
      · have e : isIntV (.int i) = false := by show (decide (-B < i) && decide (i < B)) = _; rw [decide_eq_false h1, Bool.false_and]
        rw [e] at q
        rw [decide_eq_false h1]
        exact iteF q
    | _ =>
      have e : isIntV x = false := by
        cases x with
        | int i => exact absurd hk.notInt (by intro z; cases z)
        | _ => rfl
      rw [e] at q
      exact iteF ⟨_, rfl, _, _, _, _, _, rfl, .ty _, hk, kit_int _, _, rfl, iteT q⟩

theorem h_is_point (T : Txt K mg aG dU C CV CM cs) (D : Df K mg "is_point" s_is_point) (his_integer : Has P w K mg base CX0 "is_integer" 1 ["value"] (spIsInt K)) : Has P w K mg base CX0 "is_point" 2 ["value"] (spIsPt K) := by
  refine D.has sc_is_point (fun vs H Q E h => ?_) (fun kV doc pm an cdv ct us hl => match us, hl with | [_], _ => rfl) (fun f cdv A outer s H vs Q E gd hr h => ?_)
  · obtain ⟨x, r, rfl, _⟩ := h
    rfl
  · obtain ⟨x, r, rfl, pg, q⟩ := h
    refine ⟨_, (pss_cons
 (ps_if (PW.pt (pw_or (pt_not (pt_val (pe_callB call_isi (by exact rfl) T.zisinstance (by decide +kernel) (pa_cons (pv 0) (pa_cons (pe_bltn (v := .ty "tuple") (by exact rfl) T.ztuple (by decide +kernel) rfl) pa_nil))))) (pw_or1 (pt_cmpR op_ne (pe_callB call_len_seq (by exact rfl) T.zlen PySem.boot_len (pa_cons (pv 0) pa_nil)) pe_int (nomark _))))) (pss_one
 (ps_ret pe_bl)) pss_nil)
 (pss_one
 (ps_ret (pe_and (pe_callH his_integer gd (hr.mono (by decide)) pass0 (pa_cons (pe_ix ix_tup (pv 0) pe_int (fun _ _ => rfl)) pa_nil)) (pe_one (pe_callH his_integer gd (hr.mono (by decide)) pass0 (pa_cons (pe_ix ix_tup (pv 0) pe_int (fun _ _ => rfl)) pa_nil))))))), ?_⟩
    rcases pg with ⟨k, hk, c0, c1⟩ | ⟨rfl, T, hT, kT⟩
    case inr =>
      refine ⟨_, rfl, _, _, _, _, _, rfl, .ty _, hT, kT, _, rfl, ?_⟩
      exact iteT (iteT q)
    refine ⟨_, rfl, _, _, _, _, _, rfl, .ty _, hk, kit_tup _, _, rfl, ?_⟩
    cases e : k.isT with
    | false =>
      rw [c0 e] at q
      exact iteT (iteT q)
    | true =>
      obtain ⟨a, xs, rfl, hx, lx, n2, y2⟩ := c1 e
      refine iteF ⟨_, rfl, a, xs, rfl, .inr hx, rfl, _, rfl, ?_⟩
      by_cases h2 : xs.length = 2
      · obtain ⟨u, v, ku, kv, rfl, hu, hv, er⟩ := y2 h2
        refine iteF ⟨_, rfl, a, _, _, u, rfl, rfl, hx, atI_nat (j := 0) rfl, _, _, rfl, hu, _, rfl, ?_⟩
        rw [er] at q
        cases hu1 : isIntV u with
        | true =>
          rw [hu1, Bool.true_and] at q
          exact iteT ⟨_, rfl, a, _, _, v, rfl, rfl, hx, atI_nat (j := 1) rfl, _, _, rfl, hv, q⟩
        | false =>
          rw [hu1, Bool.false_and] at q
          exact iteF q
      · rw [n2 h2] at q
        have : (!decide (V.int xs.length = V.int 2)) = true := by rw [decide_eq_false (fun z => h2 (by injection z with z; omega))]; rfl
        show if (!decide (V.int xs.length = V.int 2)) = true then _ else _
        rw [this]
        exact iteT q

theorem unit_at (hU : Uni K w aG dU U us) {t : Bool} (n : Int) : ∃ i : Addr, (∀ H, PAt K H i (uni t n)) ∧ atI ((us t).map V.ref) (n % (num t : Int)) = some (.ref i) := by
  have h1 := Int.emod_nonneg n (Int.ne_of_gt (num_pos (t := t)))
  have h2 := Int.emod_lt_of_pos n (num_pos (t := t))
  obtain ⟨j, hj⟩ : ∃ j : Nat, n % (num t : Int) = (j : Int) := ⟨(n % (num t : Int)).toNat, by omega⟩
  have e := uni_at (t := t) n
  rw [hj] at e ⊢
  have l : j < (us t).length := by rw [hU.len]; omega
  refine ⟨(us t)[j], hU.pt t j _ _ (List.getElem?_eq_getElem l) e, atI_nat ?_⟩
  rw [List.getElem?_map, List.getElem?_eq_getElem l]
  rfl

theorem h_turned_by (c : GCls K C) (hU : Uni K w aG dU U us) (T : Txt K mg aG dU C CV CM cs) (D : Df K mg "turned_by" s_turned_by) (htimes : Has P w K mg base CX0 "times" 1 ["grid", "one", "other"] (spTimes K C U)) : Has P w K mg base CX0 "turned_by" 2 ["grid", "point", "turn"] (spTurned K C U) := by
  refine D.has sc_turned_by (fun vs H Q E h => ?_) (fun kV doc pm an cdv ct us hl => match us, hl with | [_, _, _], _ => rfl) (fun f cdv A outer s H vs Q E gd hr h => ?_)
  · obtain ⟨g, t, a, u, n, rfl, _⟩ := h
    rfl
  · obtain ⟨g, t, a, u, n, rfl, ⟨dx, eg⟩, pu, su, k⟩ := h
    refine ⟨_, (pss_one
 (ps_ret (pe_callH htimes gd (hr.mono (by decide)) pass0 (pa_cons (pv 0) (pa_cons (pv 1) (pa_cons (pe_ix ix_tup (pe_fld (pv 0) rfl) (pe_op op_mod (pv 2) (pe_callB call_len_seq (by exact rfl) T.zlen PySem.boot_len (pa_cons (pe_fld (pv 0) rfl) pa_nil))) (fun _ _ => rfl)) pa_nil)))))), ?_⟩
    refine ⟨_, rfl, _, rfl, _, rfl, _, _, _, _, _, rfl, eg, c.cls, c.units, gF_units, _, rfl, _, rfl, _, _, _, _, _, rfl, eg, c.cls, c.units, gF_units, U t, _, rfl, .inr (hU.tup t _), _, _, rfl, rfl, ?_, ?_⟩
    · rw [List.length_map, hU.len t]; exact num_pos
    rw [List.length_map, hU.len t]
    obtain ⟨i, hi, e1⟩ := unit_at (t := t) hU n
    refine ⟨_, _, _, _, rfl, rfl, hU.tup t _, e1, ?_⟩
    exact ⟨g, t, a, _, u, uni t n, rfl, ⟨dx, eg⟩, pu, hi H, su, uni_sm, k⟩

end
end K07
namespace K07
open PySem PySem.Spec PyProof.Rows L2 GL PySem.GLE LamX
section
variable {P : Program} {w : World} {K : PySem.W.Frag} {mg : Str → Option Value} {base : Heap}
variable {aG dU C CV CM : Addr} {U : Bool → Addr} {us : Bool → List Addr} {cs : Cs}
/-- any answer, all else as it was -/
def AnyR (H : Hp) (Q : VK) : Prop := ∀ v H', Same H H' → Q v H'
def spX1 (K : PySem.W.Frag) (cs : Cs) (C : Addr) (U : Bool → Addr) : Sp := fun vs H Q E => ∃ g t x r, vs = [.ref g, x] ∧ GridAt C U H g t ∧ PtG K H x r ∧ (r = true → AnyR H Q) ∧ (r = false → E (.ref cs.P) none H)
def spX2 (K : PySem.W.Frag) (cs : Cs) (C : Addr) (U : Bool → Addr) : Sp := fun vs H Q E => ∃ g t x y r q, vs = [.ref g, x, y] ∧ GridAt C U H g t ∧ PtG K H x r ∧ PtG K H y q ∧ (r = true → q = true → AnyR H Q) ∧ (r = false ∨ q = false → E (.ref cs.P) none H)
def PtX (K : PySem.W.Frag) (H : Hp) (x : V) : Option (Int × Int) → Prop
  | none => PtG K H x false
  | some v => ∃ a, x = .ref a ∧ PAt K H a v ∧ ptOk v
def spXQ (K : PySem.W.Frag) (cs : Cs) (C : Addr) (U : Bool → Addr) : Sp := fun vs H Q E => ∃ g t x y r q, vs = [.ref g, x, y] ∧ GridAt C U H g t ∧ PtG K H x r ∧ PtX K H y q ∧ (r = true → ∀ v, q = some v → v ≠ (0, 0) → AnyR H Q) ∧ (r = false ∨ q = none → E (.ref cs.P) none H) ∧
  (r = true → q = some (0, 0) → ∀ d H', Same H H' → H' d = none → E (.ref cs.Q) (some d) (upd H' d (.xd [("divisor", y)])))
def spXT (K : PySem.W.Frag) (cs : Cs) (C : Addr) (U : Bool → Addr) : Sp := fun vs H Q E => ∃ g t x n r kd, vs = [.ref g, x, n] ∧ GridAt C U H g t ∧ PtG K H x r ∧ Of K H n kd ∧ (r = true → isIntV n = true → AnyR H Q) ∧ (r = false → E (.ref cs.P) none H) ∧ (r = true → isIntV n = false → BadN cs H n E)
def spXU (K : PySem.W.Frag) (cs : Cs) (C : Addr) (U : Bool → Addr) : Sp := fun vs H Q E => ∃ g t n kd, vs = [.ref g, n] ∧ GridAt C U H g t ∧ Of K H n kd ∧ (isIntV n = true → AnyR H Q) ∧ (isIntV n = false → BadN cs H n E)
theorem same_id {H : Hp} : Same H H := fun _ _ e => e
theorem h_norm_of (c : GCls K C) (D : Dm K C "norm_of" "Grid.norm_of" s_Grid_norm_of) (h_check_point : Has P w K mg base (L2.CX P w) "_check_point" 3 ["point"] (spCheckPX K cs)) (hnorm_in : Has P w K mg base CX0 "norm_in" 1 ["grid", "point"] (spNorm K C U)) : HasM P w K mg base (L2.CX P w) C "norm_of" 4 ["self", "point"] (spX1 K cs C U) := by
  refine D.hasX sc_Grid_norm_of (fun vs H Q E h => ?_) (fun kV doc pm an cdv ct us hl => match us, hl with | [_, _], _ => rfl) (fun f cdv A outer s H vs Q E gd hr h => ?_)
  · obtain ⟨g, t, x, r, rfl, _⟩ := h
    rfl
  · obtain ⟨g, t, x, r, rfl, eg, pt, k1, k0⟩ := h
    refine ⟨_, (pss_cons
 (ps_expr (pe_callH h_check_point gd (hr.mono (by decide)) (passes_call (takes_of rfl rfl rfl rfl) (fun _ _ _ _ e => e)) (pa_cons (pv 1) pa_nil)))
 (pss_one
 (ps_ret (pe_callH hnorm_in gd (hr.mono (by decide)) pass0 (pa_cons (pv 0) (pa_cons (pv 1) pa_nil)))))), ?_⟩
    refine ⟨_, rfl, x, r, rfl, pt, fun hr => ?_, k0⟩
    subst hr
    obtain ⟨a, u, rfl, pu, o⟩ := pt_real pt
    exact ⟨_, rfl, _, rfl, _, t, _, _, rfl, eg, pu, ptOk_sm o.1 o.2, k1 rfl _ _ same_id⟩
theorem h_conjugate_of (c : GCls K C) (D : Dm K C "conjugate_of" "Grid.conjugate_of" s_Grid_conjugate_of) (h_check_point : Has P w K mg base (L2.CX P w) "_check_point" 3 ["point"] (spCheckPX K cs)) (hflipped : Has P w K mg base CX0 "flipped" 1 ["grid", "point"] (spFlip K C U)) : HasM P w K mg base (L2.CX P w) C "conjugate_of" 4 ["self", "point"] (spX1 K cs C U) := by
  refine D.hasX sc_Grid_conjugate_of (fun vs H Q E h => ?_) (fun kV doc pm an cdv ct us hl => match us, hl with | [_, _], _ => rfl) (fun f cdv A outer s H vs Q E gd hr h => ?_)
  · obtain ⟨g, t, x, r, rfl, _⟩ := h
    rfl
  · obtain ⟨g, t, x, r, rfl, eg, pt, k1, k0⟩ := h
    refine ⟨_, (pss_cons
 (ps_expr (pe_callH h_check_point gd (hr.mono (by decide)) (passes_call (takes_of rfl rfl rfl rfl) (fun _ _ _ _ e => e)) (pa_cons (pv 1) pa_nil)))
 (pss_one
 (ps_ret (pe_callH hflipped gd (hr.mono (by decide)) pass0 (pa_cons (pv 0) (pa_cons (pv 1) pa_nil)))))), ?_⟩
    refine ⟨_, rfl, x, r, rfl, pt, fun hr => ?_, k0⟩
    subst hr
    obtain ⟨a, u, rfl, pu, o⟩ := pt_real pt
    exact ⟨_, rfl, _, rfl, _, t, _, _, rfl, eg, pu, ptOk_sm o.1 o.2, fun p hp => k1 rfl _ _ (Same.new hp)⟩
theorem h_product (D : Dm K C "product" "Grid.product" s_Grid_product) (h_check_point : Has P w K mg base (L2.CX P w) "_check_point" 3 ["point"] (spCheckPX K cs)) (htimes : Has P w K mg base CX0 "times" 1 ["grid", "one", "other"] (spTimes K C U)) : HasM P w K mg base (L2.CX P w) C "product" 4 ["self", "one", "other"] (spX2 K cs C U) := by
  refine D.hasX sc_Grid_product (fun vs H Q E h => ?_) (fun kV doc pm an cdv ct us hl => match us, hl with | [_, _, _], _ => rfl) (fun f cdv A outer s H vs Q E gd hr h => ?_)
  · obtain ⟨g, t, x, y, r, q, rfl, _⟩ := h
    rfl
  · obtain ⟨g, t, x, y, r, q, rfl, eg, pt, qt, k1, k0⟩ := h
    refine ⟨_, (pss_cons
 (ps_expr (pe_callH h_check_point gd (hr.mono (by decide)) (passes_call (takes_of rfl rfl rfl rfl) (fun _ _ _ _ e => e)) (pa_cons (pv 1) pa_nil)))
 (pss_cons
 (ps_expr (pe_callH h_check_point gd (hr.mono (by decide)) (passes_call (takes_of rfl rfl rfl rfl) (fun _ _ _ _ e => e)) (pa_cons (pv 2) pa_nil)))
 (pss_one
 (ps_ret (pe_callH htimes gd (hr.mono (by decide)) pass0 (pa_cons (pv 0) (pa_cons (pv 1) (pa_cons (pv 2) pa_nil)))))))), ?_⟩
    refine ⟨_, rfl, x, r, rfl, pt, fun h1 => ⟨_, rfl, y, q, rfl, qt, fun h2 => ?_, fun h2 => k0 (.inr h2)⟩, fun h1 => k0 (.inl h1)⟩
    subst h1 h2
    obtain ⟨a, u, rfl, pu, ou⟩ := pt_real pt
    obtain ⟨b, v, rfl, pv', ov⟩ := pt_real qt
    exact ⟨_, rfl, _, rfl, _, rfl, _, t, _, _, _, _, rfl, eg, pu, pv', ptOk_sm ou.1 ou.2, ptOk_sm ov.1 ov.2, fun p hp => k1 rfl rfl _ _ (Same.new hp)⟩
theorem h_turned (c : GCls K C) (D : Dm K C "turned" "Grid.turned" s_Grid_turned) (h_check_point : Has P w K mg base (L2.CX P w) "_check_point" 3 ["point"] (spCheckPX K cs)) (h_check_number : Has P w K mg base (L2.CX P w) "_check_number" 2 ["number"] (spCheckNX K cs)) (hturned_by : Has P w K mg base CX0 "turned_by" 2 ["grid", "point", "turn"] (spTurned K C U)) : HasM P w K mg base (L2.CX P w) C "turned" 4 ["self", "point", "turn"] (spXT K cs C U) := by
  refine D.hasX sc_Grid_turned (fun vs H Q E h => ?_) (fun kV doc pm an cdv ct us hl => match us, hl with | [_, _, _], _ => rfl) (fun f cdv A outer s H vs Q E gd hr h => ?_)
  · obtain ⟨g, t, x, n, r, kd, rfl, _⟩ := h
    rfl
  · obtain ⟨g, t, x, n, r, kd, rfl, eg, pt, on_, k1, k0, kn⟩ := h
    refine ⟨_, (pss_cons
 (ps_expr (pe_callH h_check_point gd (hr.mono (by decide)) (passes_call (takes_of rfl rfl rfl rfl) (fun _ _ _ _ e => e)) (pa_cons (pv 1) pa_nil)))
 (pss_cons
 (ps_expr (pe_callH h_check_number gd (hr.mono (by decide)) (passes_call (takes_of rfl rfl rfl rfl) (fun _ _ _ _ e => e)) (pa_cons (pv 2) pa_nil)))
 (pss_one
 (ps_ret (pe_callH hturned_by gd (hr.mono (by decide)) pass0 (pa_cons (pv 0) (pa_cons (pv 1) (pa_cons (pv 2) pa_nil)))))))), ?_⟩
    refine ⟨_, rfl, x, r, rfl, pt, fun h1 => ⟨_, rfl, n, kd, rfl, on_, fun h2 => ?_, fun h2 => kn h1 h2⟩, k0⟩
    subst h1
    obtain ⟨a, u, rfl, pu, o⟩ := pt_real pt
    obtain ⟨m, rfl⟩ := int_of h2
    exact ⟨_, rfl, _, rfl, _, rfl, _, t, _, _, _, rfl, eg, pu, ptOk_sm o.1 o.2, fun p hp => k1 rfl h2 _ _ (Same.new hp)⟩
theorem h_unit (c : GCls K C) (hU : Uni K w aG dU U us) (T : Txt K mg aG dU C CV CM cs) (D : Dm K C "unit" "Grid.unit" s_Grid_unit) (h_check_number : Has P w K mg base (L2.CX P w) "_check_number" 2 ["number"] (spCheckNX K cs)) : HasM P w K mg base (L2.CX P w) C "unit" 3 ["self", "direction"] (spXU K cs C U) := by
  refine D.hasX sc_Grid_unit (fun vs H Q E h => ?_) (fun kV doc pm an cdv ct us hl => match us, hl with | [_, _], _ => rfl) (fun f cdv A outer s H vs Q E gd hr h => ?_)
  · obtain ⟨g, t, n, kd, rfl, _⟩ := h
    rfl
  · obtain ⟨g, t, n, kd, rfl, ⟨dx, eg⟩, on_, k1, k0⟩ := h
    refine ⟨_, (pss_cons
 (ps_expr (pe_callH h_check_number gd (hr.mono (by decide)) (passes_call (takes_of rfl rfl rfl rfl) (fun _ _ _ _ e => e)) (pa_cons (pv 1) pa_nil)))
 (pss_one
 (ps_ret (pe_ix ix_tup (pe_fld (pv 0) rfl) (pe_op op_mod (pv 1) (pe_callB call_len_seq (by exact rfl) T.zlen PySem.boot_len (pa_cons (pe_fld (pv 0) rfl) pa_nil))) (fun _ _ => rfl))))), ?_⟩
    refine ⟨_, rfl, n, kd, rfl, on_, fun h2 => ?_, k0⟩
    obtain ⟨m, rfl⟩ := int_of h2
    refine ⟨_, rfl, _, _, _, _, _, rfl, eg, c.cls, c.units, gF_units, _, rfl, _, rfl, _, _, _, _, _, rfl, eg, c.cls, c.units, gF_units, U t, _, rfl, .inr (hU.tup t _), _, _, rfl, rfl, ?_, ?_⟩
    · rw [List.length_map, hU.len t]; exact num_pos
    rw [List.length_map, hU.len t]
    obtain ⟨i, hi, e1⟩ := unit_at (t := t) hU m
    exact ⟨_, _, _, _, rfl, rfl, hU.tup t _, e1, k1 h2 _ _ same_id⟩
theorem h_dir (c : GCls K C) (uT : UTy K U) (hU : Uni K w aG dU U us) (D : Dm K C "direction_of" "Grid.direction_of" s_Grid_direction_of) (h_check_point : Has P w K mg base (L2.CX P w) "_check_point" 3 ["point"] (spCheckPX K cs)) : HasM P w K mg base (L2.CX P w) C "direction_of" 4 ["self", "point"] (spX1 K cs C U) := by
  refine D.hasX sc_Grid_direction_of (fun vs H Q E h => ?_) (fun kV doc pm an cdv ct us hl => match us, hl with | [_, _], _ => rfl) (fun f cdv A outer s H vs Q E gd hr h => ?_)
  · obtain ⟨g, t, x, r, rfl, _⟩ := h
    rfl
  · obtain ⟨g, t, x, r, rfl, ⟨dx, eg⟩, pt, k1, k0⟩ := h
    have hu65 := by have := hr.un; exact (show (A.deeper (envOfC "Grid.direction_of" (defScope s_Grid_direction_of) s.heap.objs.size f cdv)).units + 65 < cLine by omega)
    have hu66 := by have := hr.un; exact (show (A.deeper (envOfC "Grid.direction_of" (defScope s_Grid_direction_of) s.heap.objs.size f cdv)).units + 66 < cLine by omega)
    refine ⟨_, (pss_cons
 (ps_expr (pe_callH h_check_point gd (hr.mono (by decide)) (passes_call (takes_of rfl rfl rfl rfl) (fun _ _ _ _ e => e)) (pa_cons (pv 1) pa_nil)))
 (pss_one
 (ps_ret (pe_ifExp (pt_cmpR (op_inT hu66) (pv 1) (pe_fld (pv 0) rfl) (by rfl)) (pe_bm PySem.F.plainAttrs_tuple PySem.F.slot_tuple_index PySem.F.type_tuple_index (mt_indexT hu65) (pe_fld (pv 0) rfl) (pa_cons (pv 1) pa_nil)) pe_non)))), ?_⟩
    refine ⟨_, rfl, x, r, rfl, pt, fun h1 => ?_, k0⟩
    subst h1
    obtain ⟨a, u, rfl, pu, o⟩ := pt_real pt
    have du : Dp K H (.ref (U t)) (.tuple ((ux t).map ptD)) := .tup (hU.tup t H) (hU.pts t H).dp
    refine ⟨_, rfl, _, rfl, _, _, _, _, _, rfl, eg, c.cls, c.units, gF_units, _, _, pu.dp, du, ptD_shaped u, ptDt_shaped _, ?_⟩
    rw [dir_in]
    cases e : dirOf t u with
    | none => exact ⟨_, rfl, iteF (k1 rfl _ _ same_id)⟩
    | some j =>
      obtain ⟨lt, at_, no⟩ := dir_at e
      refine ⟨_, rfl, iteT ⟨_, rfl, _, _, _, _, _, rfl, eg, c.cls, c.units, gF_units, ?_, _, rfl, ?_⟩⟩
      · exact .inr (.inl ⟨rfl, uT t⟩)
      exact ⟨_, _, _, _, _, _, rfl, rfl, du, pu.dp, ptDt_shaped _, ptD_shaped u, at_, by rw [ptD_eqv]; exact decide_eq_true rfl, no, k1 rfl _ _ same_id⟩
end
end K07
namespace K07
open PySem PySem.Spec PyProof.Rows L2 GL PySem.GLE LamX
abbrev s_Grid_alternate : Stmt := inClass (topS 30) 8
abbrev N_Grid_alternate : List Str := ["self", "ends", "others"]
theorem sc_Grid_alternate : FnScope N_Grid_alternate ["self", "ends", "others"] (defScope s_Grid_alternate) := ⟨rfl, rfl, rfl, by decide +kernel, rfl, by decide +kernel, by decide +kernel⟩
abbrev s_take_turns : Stmt := topS 10
abbrev N_take_turns : List Str := ["many", "ends", "others", "width", "one", "two"]
theorem sc_take_turns : FnScope N_take_turns ["many", "ends", "others"] (defScope s_take_turns) := ⟨rfl, rfl, rfl, by decide +kernel, rfl, by decide +kernel, by decide +kernel⟩
def quo0 (t : Bool) (u v : Int × Int) : Option (Int × Int) := if v = (0, 0) then none else quo t u v
def spDivX (K : PySem.W.Frag) (C : Addr) (U : Bool → Addr) : Sp := fun vs H Q _ => ∃ g t a b u v, vs = [.ref g, .ref a, .ref b] ∧ GridAt C U H g t ∧ PAt K H a u ∧ PAt K H b v ∧ Sm u ∧ Sm v ∧ Sm (flip t v) ∧ Sm (low t u v) ∧ (nrm t v).natAbs < 2 ^ 8000 ∧ ∀ x H', Same H H' → QAt K H' (quo0 t u v) x → Q x H'
section
variable {P : Program} {w : World} {K : PySem.W.Frag} {mg : Str → Option Value} {base : Heap}
variable {aG dU C CV CM : Addr} {U : Bool → Addr} {us : Bool → List Addr} {cs : Cs}
theorem sq_nat (x : Int) : x * x = ((x.natAbs * x.natAbs : Nat) : Int) := by rw [Int.natCast_mul]; exact (Int.natAbs_mul_self' x).symm
theorem nrm_pos' {t : Bool} {v : Int × Int} (h : v ≠ (0, 0)) : 0 < nrm t v := by
  obtain ⟨a, b⟩ := v
  have key : ∀ x y : Int, ¬ (x = 0 ∧ y = 0) → 0 < x * x + y * y := fun x y n => by
    rw [sq_nat x, sq_nat y]
    have h1 : 0 < x.natAbs * x.natAbs + y.natAbs * y.natAbs := by
      by_cases hx : x = 0
      · have hy : y.natAbs ≠ 0 := fun z => n ⟨hx, by omega⟩
        exact Nat.lt_of_lt_of_le (Nat.mul_pos (Nat.pos_of_ne_zero hy) (Nat.pos_of_ne_zero hy)) (Nat.le_add_left _ _)
      · have hy : x.natAbs ≠ 0 := fun z => hx (by omega)
        exact Nat.lt_of_lt_of_le (Nat.mul_pos (Nat.pos_of_ne_zero hy) (Nat.pos_of_ne_zero hy)) (Nat.le_add_right _ _)
    omega
  have ne : ¬ (a = 0 ∧ b = 0) := fun ⟨x, y⟩ => h (by rw [x, y])
  cases t with
  | false =>
    have e : nrm false (a, b) = a * a + b * b := by simp [nrm, sl] <;> grind
    rw [e]
    exact key a b ne
  | true =>
    have e : 2 * nrm true (a, b) = (a * a + b * b) + (a + b) * (a + b) := by simp [nrm, sl] <;> grind
    have k1 := key a b ne
    have k2 := sq_nat (a + b)
    omega
theorem nrm_zero {t : Bool} : nrm t (0, 0) = 0 := by cases t <;> decide
theorem h_divided (D : Df K mg "divided" s_divided) (htimes : Has P w K mg base CX0 "times" 1 ["grid", "one", "other"] (spTimes K C U)) (hnorm_in : Has P w K mg base CX0 "norm_in" 1 ["grid", "point"] (spNorm K C U)) (hflipped : Has P w K mg base CX0 "flipped" 1 ["grid", "point"] (spFlip K C U)) :
    Has P w K mg base CX0 "divided" 2 ["grid", "point", "divisor"] (spDivX K C U) := by
  refine D.has sc_divided (fun vs H Q E h => ?_) (fun kV doc pm an cdv ct us hl => match us, hl with | [_, _, _], _ => rfl) (fun f cdv A outer s H vs Q E gd hr h => ?_)
  · obtain ⟨g, t, a, b, u, v, rfl, _⟩ := h
    rfl
  · obtain ⟨g, t, a, b, u, v, rfl, eg, pu, pv', su, sv, sf, sl, nn, k⟩ := h
    refine ⟨_, (pss_cons
 (ps_set (i := 3) sc_divided.nd rfl (Or.inl rfl) (pe_callH hnorm_in gd (hr.mono (by decide)) pass0 (pa_cons (pv 0) (pa_cons (pv 2) pa_nil))))
 (pss_cons
 (ps_set (i := 4) sc_divided.nd rfl (Or.inl rfl) (pe_callH htimes gd (hr.mono (by decide)) pass0 (pa_cons (pv 0) (pa_cons (pv 1) (pa_cons (pe_callH hflipped gd (hr.mono (by decide)) pass0 (pa_cons (pv 0) (pa_cons (pv 2) pa_nil))) pa_nil)))))
 (pss_cons
 (ps_if (PW.pt (pw_or (pt_cmpR op_eq (pv 3) pe_int (nomark _)) (pw_or (pt_cmpR op_ne (pe_op op_mod (pe_ix ix_tup (pv 4) pe_int (fun _ _ => rfl)) (pv 3)) pe_int (nomark _)) (pw_or1 (pt_cmpR op_ne (pe_op op_mod (pe_ix ix_tup (pv 4) pe_int (fun _ _ => rfl)) (pv 3)) pe_int (nomark _)))))) (pss_one
 (ps_ret pe_non)) pss_nil)
 (pss_one
 (ps_ret (pe_tup (pa_cons (pe_op op_fdivW (pe_ix ix_tup (pv 4) pe_int (fun _ _ => rfl)) (pv 3)) (pa_cons (pe_op op_fdivW (pe_ix ix_tup (pv 4) pe_int (fun _ _ => rfl)) (pv 3)) pa_nil)))))))), ?_⟩
    refine ⟨_, rfl, _, rfl, g, t, b, v, rfl, eg, pv', sv, ?_⟩
    refine ⟨_, rfl, _, rfl, _, rfl, _, rfl, g, t, b, v, rfl, eg, pv', sv, fun p1 h1 => ?_⟩
    have s1 := Same.new (o := .tup [.int (flip t v).1, .int (flip t v).2]) h1
    have q1 : PAt K (upd H p1 (.tup [.int (flip t v).1, .int (flip t v).2])) p1 (flip t v) := PAt.of upd_same
    generalize upd H p1 (.tup [.int (flip t v).1, .int (flip t v).2]) = H1 at *
    refine ⟨g, t, a, p1, u, flip t v, rfl, eg.same s1, pu.same s1, q1, su, sf, fun p2 h2 => ?_⟩
    have s2 := s1.trans (Same.new (o := .tup [.int (low t u v).1, .int (low t u v).2]) h2)
    have q2 : PAt K (upd H1 p2 (.tup [.int (low t u v).1, .int (low t u v).2])) p2 (low t u v) := PAt.of upd_same
    change (fun H2 => _) (upd H1 p2 (.tup [.int (low t u v).1, .int (low t u v).2]))
    generalize upd H1 p2 (.tup [.int (low t u v).1, .int (low t u v).2]) = H2 at *
    have fin := fun x H' s' => k x H' (s2.trans s')
    by_cases v0 : v = (0, 0)
    · subst v0
      rw [show quo0 t u (0, 0) = none from if_pos rfl] at fin
      refine ⟨_, rfl, rfl, _, rfl, ?_⟩
      rw [show decide (V.int (nrm t (0, 0)) = V.int 0) = true from by rw [int_eq, nrm_zero]; rfl]
      exact iteT (iteT (fin _ _ (Same.refl _) rfl))
    have hn : 0 < nrm t v := nrm_pos' v0
    rw [show quo0 t u v = quo t u v from if_neg v0] at fin
    unfold quo at fin
    have ne0 : ∀ x : Int, (!decide (V.int x = V.int 0)) = !decide (x = 0) := fun x => by rw [int_eq]
    refine ⟨_, rfl, rfl, _, rfl, ?_⟩
    rw [show decide (V.int (nrm t v) = V.int 0) = false from by rw [int_eq]; exact decide_eq_false (Int.ne_of_gt hn)]
    refine iteF ⟨_, rfl, _, _, _, _, rfl, rfl, q2, atI_nat (j := 0) rfl, _, rfl, _, _, rfl, rfl, hn, rfl, _, rfl, ?_⟩
    rw [ne0]
    by_cases c1 : (low t u v).1 % nrm t v = 0
    · rw [decide_eq_true c1]
      refine iteF ⟨_, rfl, _, _, _, _, rfl, rfl, q2, atI_nat (j := 1) rfl, _, rfl, _, _, rfl, rfl, hn, rfl, _, rfl, ?_⟩
      rw [ne0]
      by_cases c2 : (low t u v).2 % nrm t v = 0
      · rw [decide_eq_true c2]
        rw [if_pos ⟨c1, c2⟩] at fin
        refine iteF ⟨_, rfl, _, _, _, _, rfl, rfl, q2, atI_nat (j := 0) rfl, _, rfl, _, _, rfl, rfl, (wide_div hn nn (by decide) (by decide)), _, rfl, _, _, _, _, rfl, rfl, q2, atI_nat (j := 1) rfl, _, rfl, _, _, rfl, rfl, (wide_div hn nn (by decide) (by decide)), by show 2 ≤ sizeLine; decide, fun p hp => ?_⟩
        exact fin _ _ (Same.new hp) ⟨p, rfl, PAt.of upd_same⟩
      · rw [decide_eq_false c2]
        rw [if_neg (fun z => c2 z.2)] at fin
        exact iteT (fin _ _ (Same.refl _) rfl)
    · rw [decide_eq_false c1]
      rw [if_neg (fun z => c1 z.1)] at fin
      exact iteT (fin _ _ (Same.refl _) rfl)
theorem pt_of {H : Hp} {a : Addr} {u : Int × Int} (h : PAt K H a u) (o : ptOk u) : PtV K H (.ref a) true :=
  ⟨.tup, SqT.tup' h, (fun z => nomatch z), fun _ => ⟨a, _, rfl, h, by show 2 ≤ 1000; decide, fun z => absurd rfl z, fun _ => ⟨_, _, _, _, rfl, .int, .int, by rw [o.1, o.2]; rfl⟩⟩⟩

theorem PtX.pt {H : Hp} {x : V} {o : Option (Int × Int)} (h : PtX K H x o) : PtG K H x o.isSome := by
  cases o with
  | none => exact h
  | some v =>
    obtain ⟨a, rfl, p, k⟩ := h
    exact .inl (pt_of p k)
theorem le_sm {n : Nat} {u : Int × Int} (h : Le n u) (hn : n < 2 ^ 3000) : Sm u := ⟨Nat.lt_of_le_of_lt h.1 hn, Nat.lt_of_le_of_lt h.2 hn⟩
theorem h_quotient (D : Dm K C "quotient" "Grid.quotient" s_Grid_quotient) (T : Txt K mg aG dU C CV CM cs) (h_check_point : Has P w K mg base (L2.CX P w) "_check_point" 3 ["point"] (spCheckPX K cs)) (hdivided : Has P w K mg base CX0 "divided" 2 ["grid", "point", "divisor"] (spDivX K C U)) :
    HasM P w K mg base (L2.CX P w) C "quotient" 4 ["self", "point", "divisor"] (spXQ K cs C U) := by
  refine D.hasX sc_Grid_quotient (fun vs H Q E h => ?_) (fun kV doc pm an cdv ct us hl => match us, hl with | [_, _, _], _ => rfl) (fun f cdv A outer s H vs Q E gd hr h => ?_)
  · obtain ⟨g, t, x, y, r, q, rfl, _⟩ := h
    rfl
  · obtain ⟨g, t, x, y, r, q, rfl, eg, pt, qt, k1, k0, kz⟩ := h
    have hu := hr.units
    refine ⟨_, (pss_cons
 (ps_expr (pe_callH h_check_point gd (hr.mono (by decide)) (passes_call (takes_of rfl rfl rfl rfl) (fun _ _ _ _ e => e)) (pa_cons (pv 1) pa_nil)))
 (pss_cons
 (ps_expr (pe_callH h_check_point gd (hr.mono (by decide)) (passes_call (takes_of rfl rfl rfl rfl) (fun _ _ _ _ e => e)) (pa_cons (pv 2) pa_nil)))
 (pss_cons
 (ps_if (pt_cmpR (op_eqD hu) (pv 2) (pe_tup (pa_cons pe_int (pa_cons pe_int pa_nil))) (nomark _)) (pss_one
 (ps_raise rfl (takes_of rfl rfl rfl rfl) (pmk_err T.eNoQuotient hr (pa_cons (pv 2) pa_nil)))) pss_nil)
 (pss_one
 (ps_ret (pe_callH hdivided gd (hr.mono (by decide)) pass0 (pa_cons (pv 0) (pa_cons (pv 1) (pa_cons (pv 2) pa_nil))))))))), ?_⟩
    refine ⟨_, rfl, x, r, rfl, pt, fun h1 => ⟨_, rfl, y, q.isSome, rfl, qt.pt, fun h2 => ?_, fun h2 => k0 (.inr (by cases q with | none => rfl | some v => cases h2))⟩, fun h1 => k0 (.inl h1)⟩
    subst h1
    obtain ⟨a, u, rfl, pu, ou⟩ := pt_real pt
    cases q with
    | none => cases h2
    | some v =>
    obtain ⟨b, rfl, pv', ov⟩ := qt
    refine ⟨_, rfl, by show 2 ≤ sizeLine; decide, fun z hz => ?_⟩
    have s1 := Same.new (o := .tup [.int 0, .int 0]) hz
    have q1 : PAt K (upd H z (.tup [.int 0, .int 0])) z (0, 0) := PAt.of upd_same
    generalize upd H z (.tup [.int 0, .int 0]) = H1 at *
    refine ⟨ptD _, ptD _, ptD_at (pv'.same s1), ptD_at q1, ptD_shaped _, ptD_shaped _, _, rfl, ?_⟩
    rw [ptD_eqv]
    by_cases e : v = (0, 0)
    · subst e
      rw [decide_eq_true rfl]
      exact iteT ⟨_, rfl, _, rfl, fun d nd => kz rfl rfl d H1 s1 nd⟩
    · rw [decide_eq_false e]
      have su := ptOk_sm ou.1 ou.2
      have sv := ptOk_sm ov.1 ov.2
      have lu := ptOk_le ou
      have lv := ptOk_le ov
      refine iteF ⟨_, rfl, _, rfl, _, rfl, g, t, a, b, u, v, rfl, eg.same s1, pu.same s1, pv'.same s1, su, sv, le_sm (lv.flip (t := t)) (by decide +kernel), le_sm (lu.mul (t := t) (lv.flip (t := t))) (by decide +kernel), Nat.lt_of_le_of_lt lv.nrm (by decide +kernel), fun x H' s' _ => k1 rfl v rfl e x H' (s1.trans s')⟩
/-- alternate: wrong pairs, and two right ones -/
def spXA (K : PySem.W.Frag) (cs : Cs) (C : Addr) (U : Bool → Addr) : Sp := fun vs H Q E => ∃ g t x y r q, vs = [.ref g, x, y] ∧ GridAt C U H g t ∧ PtG K H x r ∧ PtG K H y q ∧ (r = true → q = true → AnyR H Q) ∧ (r = false ∨ q = false → E (.ref cs.O) none H)
def spTake (K : PySem.W.Frag) : Sp := fun vs H Q _ => ∃ t a b e o, vs = [.int (num t : Nat), .ref a, .ref b] ∧ PAt K H a e ∧ PAt K H b o ∧ ∀ H', Same H H' → Q (.bl (alt t e o)) H'
theorem dist4 (a b c : Int) : decide (dist [0, a, b, c] = 4) = (!(decide ((0 : Int) = a) || (decide ((0 : Int) = b) || decide ((0 : Int) = c))) && !(decide (a = b) || decide (a = c)) && !decide (b = c)) := by
  unfold dist
  simp only [List.foldl, PyProof.Rows.step_dedup]
  by_cases h1 : (0 : Int) = a
  · subst h1; by_cases h2 : (0 : Int) = b
    · subst h2; by_cases h3 : (0 : Int) = c
      · subst h3; decide
      · simp [h3, Ne.symm h3]
    · by_cases h3 : (0 : Int) = c
      · subst h3; simp [h2]
      · by_cases h6 : b = c
        · subst h6; simp [h2]
        · simp [h2, h3, h6]
  · by_cases h2 : (0 : Int) = b
    · subst h2; by_cases h3 : (0 : Int) = c
      · subst h3; simp [h1]
      · by_cases h5 : a = c
        · subst h5; simp [h1]
        · simp [h1, h3, h5]
    · by_cases h3 : (0 : Int) = c
      · subst h3; by_cases h4 : a = b
        · subst h4; simp [h1]
        · simp [h1, h2, h4]
      · by_cases h4 : a = b
        · subst h4; by_cases h5 : a = c
          · subst h5; simp [h1]
          · simp [h1, h3, h5]
        · by_cases h5 : a = c
          · subst h5; simp [h1, h2, h4]
          · by_cases h6 : b = c
            · subst h6; simp [h1, h2, h4]
            · simp [h1, h2, h3, h4, h5, h6]
theorem alt_eq {t : Bool} {e o : Int × Int} : alt t e o = (!(decide ((0 : Int) = (e.2 - e.1) % (num t : Int)) || (decide ((0 : Int) = (o.1 - e.1) % (num t : Int)) || decide ((0 : Int) = (o.2 - e.1) % (num t : Int)))) && (!(decide ((e.2 - e.1) % (num t : Int) = (o.1 - e.1) % (num t : Int)) || decide ((e.2 - e.1) % (num t : Int) = (o.2 - e.1) % (num t : Int))) &&
    (decide ((o.1 - e.1) % (num t : Int) < (e.2 - e.1) % (num t : Int)) != decide ((o.2 - e.1) % (num t : Int) < (e.2 - e.1) % (num t : Int))))) := by
  unfold alt
  rw [dist4]
  by_cases h6 : (o.1 - e.1) % (num t : Int) = (o.2 - e.1) % (num t : Int)
  · rw [h6]; simp
  · simp [h6, Bool.and_assoc]
theorem h_take_turns (D : Df K mg "take_turns" s_take_turns) : Has P w K mg base CX0 "take_turns" 1 ["many", "ends", "others"] (spTake K) := by
  refine D.has sc_take_turns (fun vs H Q E h => ?_) (fun kV doc pm an cdv ct us hl => match us, hl with | [_, _, _], _ => rfl) (fun f cdv A outer s H vs Q E gd hr h => ?_)
  · obtain ⟨t, a, b, e, o, rfl, _⟩ := h
    rfl
  · obtain ⟨t, a, b, e, o, rfl, pe, po, k⟩ := h
    have hu := hr.units
    have hu66 : (A.deeper (envOfC "take_turns" (defScope s_take_turns) s.heap.objs.size f cdv)).units + 66 < cLine := by have := hr.un; omega
    refine ⟨_, (pss_cons
 (ps_set (i := 3) sc_take_turns.nd rfl (Or.inl rfl) (pe_op op_mod (pe_op op_sub (pe_ix ix_tup (pv 1) pe_int (fun _ _ => rfl)) (pe_ix ix_tup (pv 1) pe_int (fun _ _ => rfl))) (pv 0)))
 (pss_cons
 (ps_set (i := 4) sc_take_turns.nd rfl (Or.inl rfl) (pe_op op_mod (pe_op op_sub (pe_ix ix_tup (pv 2) pe_int (fun _ _ => rfl)) (pe_ix ix_tup (pv 1) pe_int (fun _ _ => rfl))) (pv 0)))
 (pss_cons
 (ps_set (i := 5) sc_take_turns.nd rfl (Or.inl rfl) (pe_op op_mod (pe_op op_sub (pe_ix ix_tup (pv 2) pe_int (fun _ _ => rfl)) (pe_ix ix_tup (pv 1) pe_int (fun _ _ => rfl))) (pv 0)))
 (pss_cons
 (ps_if (PW.pt (pw_or (pt_cmpR (op_inT hu66) pe_int (pe_tup (pa_cons (pv 3) (pa_cons (pv 4) (pa_cons (pv 5) pa_nil)))) (by rfl)) (pw_or1 (pt_cmpR (op_inT hu66) (pv 3) (pe_tup (pa_cons (pv 4) (pa_cons (pv 5) pa_nil))) (by rfl))))) (pss_one
 (ps_ret pe_bl)) pss_nil)
 (pss_one
 (ps_ret (pe_cmpR op_ne (pe_cmpR op_lt (pv 4) (pv 3) (nomark _)) (pe_cmpR op_lt (pv 5) (pv 3) (nomark _)) (nomark _)))))))), ?_⟩
    refine ⟨_, rfl, _, _, _, _, rfl, rfl, pe, atI_nat (j := 1) rfl, _, rfl, _, _, _, _, rfl, rfl, pe, atI_nat (j := 0) rfl, _, _, rfl, rfl, _, rfl, _, _, rfl, rfl, num_pos, ?_⟩
    refine ⟨_, rfl, _, _, _, _, rfl, rfl, po, atI_nat (j := 0) rfl, _, rfl, _, _, _, _, rfl, rfl, pe, atI_nat (j := 0) rfl, _, _, rfl, rfl, _, rfl, _, _, rfl, rfl, num_pos, ?_⟩
    refine ⟨_, rfl, _, _, _, _, rfl, rfl, po, atI_nat (j := 1) rfl, _, rfl, _, _, _, _, rfl, rfl, pe, atI_nat (j := 0) rfl, _, _, rfl, rfl, _, rfl, _, _, rfl, rfl, num_pos, ?_⟩
    refine ⟨_, rfl, _, rfl, _, rfl, by show 3 ≤ sizeLine; decide, fun L hL => ?_⟩
    have n3 : ∀ a b c d : Int, (List.any [PyData.int a, .int b, .int c] fun z => PyData.eqv z (.int d)) = (decide (d = a) || (decide (d = b) || decide (d = c))) := fun a b c d => by simp [PyData.eqv, eq_comm]; rfl
    have n2 : ∀ a b d : Int, (List.any [PyData.int a, .int b] fun z => PyData.eqv z (.int d)) = (decide (d = a) || decide (d = b)) := fun a b d => by simp [PyData.eqv, eq_comm]; rfl
    have s1 := Same.new (o := .tup [.int ((e.2 - e.1) % (num t : Int)), .int ((o.1 - e.1) % (num t : Int)), .int ((o.2 - e.1) % (num t : Int))]) hL
    refine ⟨.int 0, [.int ((e.2 - e.1) % (num t : Int)), .int ((o.1 - e.1) % (num t : Int)), .int ((o.2 - e.1) % (num t : Int))], .int 0, .tup (SqT.of upd_same) (.cons (.int _) (.cons (.int _) (.cons (.int _) .nil))), rfl, rfl, _, rfl, ?_⟩
    rw [n3]
    rw [alt_eq] at k
    generalize upd H L (.tup [.int ((e.2 - e.1) % (num t : Int)), .int ((o.1 - e.1) % (num t : Int)), .int ((o.2 - e.1) % (num t : Int))]) = H1 at *
    refine ite2 (fun c1 => ?_) (fun c1 => ?_)
    · rw [c1, Bool.not_true, Bool.false_and] at k
      exact iteT (k H1 s1)
    · have c1' : (decide ((0 : Int) = (e.2 - e.1) % (num t : Int)) || (decide ((0 : Int) = (o.1 - e.1) % (num t : Int)) || decide ((0 : Int) = (o.2 - e.1) % (num t : Int)))) = false := by simpa using c1
      rw [c1', Bool.not_false, Bool.true_and] at k
      refine ⟨_, rfl, _, rfl, _, rfl, by show 2 ≤ sizeLine; decide, fun L2 hL2 => ?_⟩
      have s2 := s1.trans (Same.new (o := .tup [.int ((o.1 - e.1) % (num t : Int)), .int ((o.2 - e.1) % (num t : Int))]) hL2)
      refine ⟨.int ((e.2 - e.1) % (num t : Int)), [.int ((o.1 - e.1) % (num t : Int)), .int ((o.2 - e.1) % (num t : Int))], .int _, .tup (SqT.of upd_same) (.cons (.int _) (.cons (.int _) .nil)), rfl, rfl, _, rfl, ?_⟩
      rw [n2]
      refine ite2 (fun c2 => ?_) (fun c2 => ?_)
      · rw [c2, Bool.not_true, Bool.false_and] at k
        exact k _ s2
      · have c2' : (decide ((e.2 - e.1) % (num t : Int) = (o.1 - e.1) % (num t : Int)) || decide ((e.2 - e.1) % (num t : Int) = (o.2 - e.1) % (num t : Int))) = false := by simpa using c2
        rw [c2', Bool.not_false, Bool.true_and] at k
        refine ⟨_, rfl, _, rfl, _, _, rfl, rfl, _, rfl, _, rfl, _, _, rfl, rfl, rfl, ?_⟩
        rw [bl_ne]
        exact k _ s2

theorem h_alternate (c : GCls K C) (hU : Uni K w aG dU U us) (T : Txt K mg aG dU C CV CM cs) (D : Dm K C "alternate" "Grid.alternate" s_Grid_alternate) (his_point : Has P w K mg base CX0 "is_point" 2 ["value"] (spIsPt K)) (htake_turns : Has P w K mg base CX0 "take_turns" 1 ["many", "ends", "others"] (spTake K)) : HasM P w K mg base (L2.CX P w) C "alternate" 3 ["self", "ends", "others"] (spXA K cs C U) := by
  refine D.hasX sc_Grid_alternate (fun vs H Q E h => ?_) (fun kV doc pm an cdv ct us hl => match us, hl with | [_, _, _], _ => rfl) (fun f cdv A outer s H vs Q E gd hr h => ?_)
  · obtain ⟨g, t, x, y, r, q, rfl, _⟩ := h
    rfl
  · obtain ⟨g, t, x, y, r, q, rfl, ⟨dx, eg⟩, pt, qt, k1, k0⟩ := h
    refine ⟨_, (pss_cons
 (ps_if (PW.pt (pw_or (pt_not (pt_val (pe_callH his_point gd (hr.mono (by decide)) pass0 (pa_cons (pv 1) pa_nil)))) (pw_or1 (pt_not (pt_val (pe_callH his_point gd (hr.mono (by decide)) pass0 (pa_cons (pv 2) pa_nil))))))) (pss_one
 (ps_raise rfl (takes_of rfl rfl rfl rfl) (pmk_own PySem.F.excBase_ValueError T.mInvalidOperation.q T.mInvalidOperation.g T.mInvalidOperation.k (raises_own T.mInvalidOperation.b T.mInvalidOperation.t) rfl))) pss_nil)
 (pss_one
 (ps_ret (pe_callH htake_turns gd (hr.mono (by decide)) pass0 (pa_cons (pe_callB call_len_seq (by exact rfl) T.zlen PySem.boot_len (pa_cons (pe_fld (pv 0) rfl) pa_nil)) (pa_cons (pv 1) (pa_cons (pv 2) pa_nil))))))), ?_⟩
    refine ⟨_, rfl, _, r, rfl, pt, _, rfl, ?_⟩
    cases r with
    | false => exact iteT (iteT (k0 (.inl rfl)))
    | true =>
    refine iteF ⟨_, rfl, _, q, rfl, qt, _, rfl, ?_⟩
    cases q with
    | false => exact iteT (k0 (.inr rfl))
    | true =>
    obtain ⟨a, e, rfl, pe, oe⟩ := pt_real pt
    obtain ⟨b, o, rfl, po, oo⟩ := pt_real qt
    refine iteF ?_
    refine ⟨_, rfl, _, _, _, _, _, rfl, eg, c.cls, c.units, gF_units, U t, _, rfl, .inr (hU.tup t _), ?_⟩
    rw [List.length_map, hU.len t]
    exact ⟨_, rfl, _, rfl, t, a, b, e, o, rfl, pe, po, fun H' s' => k1 rfl rfl _ _ s'⟩
end
end K07
namespace K07
open PySem PySem.Spec PyProof.Rows L2 GL PySem.GLE LamX
abbrev s_Grid_WinitW : Stmt := inClass (topS 30) 0
abbrev N_Grid_WinitW : List Str := ["self", "name"]
theorem sc_Grid_WinitW : FnScope N_Grid_WinitW ["self", "name"] (defScope s_Grid_WinitW) := ⟨rfl, rfl, rfl, by decide +kernel, rfl, by decide +kernel, by decide +kernel⟩
abbrev s_Grid_WeqW : Stmt := inClass (topS 30) 11
abbrev N_Grid_WeqW : List Str := ["self", "other"]
theorem sc_Grid_WeqW : FnScope N_Grid_WeqW ["self", "other"] (defScope s_Grid_WeqW) := ⟨rfl, rfl, rfl, by decide +kernel, rfl, by decide +kernel, by decide +kernel⟩
abbrev s_Vector_WinitW : Stmt := inClass (topS 31) 0
abbrev N_Vector_WinitW : List Str := ["self", "grid", "point"]
theorem sc_Vector_WinitW : FnScope N_Vector_WinitW ["self", "grid", "point"] (defScope s_Vector_WinitW) := ⟨rfl, rfl, rfl, by decide +kernel, rfl, by decide +kernel, by decide +kernel⟩
abbrev s_MadeVector_WinitW : Stmt := inClass (topS 32) 0
abbrev N_MadeVector_WinitW : List Str := ["self", "grid", "point"]
theorem sc_MadeVector_WinitW : FnScope N_MadeVector_WinitW ["self", "grid", "point"] (defScope s_MadeVector_WinitW) := ⟨rfl, rfl, rfl, by decide +kernel, rfl, by decide +kernel, by decide +kernel⟩
abbrev s__check_partner : Stmt := topS 33
abbrev N__check_partner : List Str := ["vector", "other"]
theorem sc__check_partner : FnScope N__check_partner ["vector", "other"] (defScope s__check_partner) := ⟨rfl, rfl, rfl, by decide +kernel, rfl, by decide +kernel, by decide +kernel⟩
/-- none of the names of grids -/
def NoName (K : PySem.W.Frag) (C : Addr) (U : Bool → Addr) (H : Hp) (x : V) : Prop := (∃ d, Dr K H x d ∧ d.canLay0 = true ∧ PyData.eqv (.str "square") d = false ∧ PyData.eqv (.str "triangle") d = false) ∨ (∃ g t, x = .ref g ∧ GridAt C U H g t) ∨ ∃ a, x = .ref a ∧ H a = some (.dK [])
def spInitX (K : PySem.W.Frag) (C : Addr) (U : Bool → Addr) (cs : Cs) : Sp := fun vs H Q E => ∃ p dx x, vs = [.ref p, x] ∧ H p = some (.ins C dx []) ∧
  ((∃ t, x = .str (nm t) ∧ ∀ H', (∀ b, b ≠ p → H' b = H b) → H' p = some (.ins C dx (gF U t)) → Q .non H') ∨ (NoName K C U H x ∧ E (.ref cs.G) none H))
theorem mgv_ref {mg : Str → Option Value} {x : Str} {a : Addr} (h : MgV mg x (.ref a)) : mg x = some (.ref a) := by
  obtain ⟨u, e, r⟩ := h
  cases (show u = Value.ref a from r)
  exact e
def spVInitX (K : PySem.W.Frag) (C : Addr) (U : Bool → Addr) (CV : Addr) (cs : Cs) : Sp := fun vs H Q E => ∃ p dx gx x, vs = [.ref p, gx, x] ∧ H p = some (.ins CV dx []) ∧
  ((∃ T, TyX K H gx T ∧ PySem.W.kitOne K T (.ref C) = some false ∧ E (.ref cs.G) none H) ∨
   (∃ g t, gx = .ref g ∧ GridAt C U H g t ∧ PtG K H x false ∧ E (.ref cs.P) none H) ∨
   (∃ g t a u, gx = .ref g ∧ x = .ref a ∧ GridAt C U H g t ∧ PAt K H a u ∧ ptOk u ∧ ∀ H', (∀ b, b ≠ p → H' b = H b) → H' p = some (.ins CV dx (vF g a (nrm t u))) → Q .non H'))
/-- what stands right of a vector's operator: no partner, or a vector of the grid t' -/
def spPartX (K : PySem.W.Frag) (C : Addr) (U : Bool → Addr) (CV CM : Addr) (cs : Cs) : Sp := fun vs H Q E => ∃ v D t u y, vs = [.ref v, y] ∧ IsV CV CM D ∧ VecAt K C U D H v t u ∧
  ((∃ T, TyX K H y T ∧ PySem.W.kitOne K T (.ref CV) = some false ∧ E (.ref cs.O) none H) ∨ (∃ w D' t' z, y = .ref w ∧ IsV CV CM D' ∧ VecAt K C U D' H w t' z ∧ (t = t' → Q .non H) ∧ (t ≠ t' → E (.ref cs.O) none H)))
section
variable {P : Program} {w : World} {K : PySem.W.Frag} {mg : Str → Option Value} {base : Heap}
variable {aG dU C CV CM : Addr} {U : Bool → Addr} {us : Bool → List Addr} {cs : Cs}
theorem h_geq (c : GCls K C) (i : GIs K C) (T : Txt K mg aG dU C CV CM cs) (D : Dm K C "__eq__" "Grid.__eq__" s_Grid_WeqW) : HasM P w K mg base CX0 C "__eq__" 1 ["self", "other"] (spGEq K C U) := by
  refine D.has sc_Grid_WeqW (fun vs H Q E h => ?_) (fun kV doc pm an cdv ct us hl => match us, hl with | [_, _], _ => rfl) (fun f cdv A outer s H vs Q E gd hr h => ?_)
  · obtain ⟨g, t, y, r, rfl, _⟩ := h
    rfl
  · obtain ⟨g, t, y, r, rfl, ⟨dx, eg⟩, o, k⟩ := h
    refine ⟨_, (pss_one
 (ps_ret (pe_and (pe_callB call_isi (by exact rfl) T.zisinstance (by decide +kernel) (pa_cons (pv 1) (pa_cons (pe_globV T.gGrid) pa_nil))) (pe_one (pe_cmpR op_eq (pe_fld (pv 0) rfl) (pe_fld (pv 1) rfl) (nomark _)))))), ?_⟩
    rcases o with ⟨b, t', rfl, ⟨dy, eb⟩, rfl⟩ | ⟨kd, o, rfl⟩
    · refine ⟨_, rfl, _, _, _, _, _, rfl, .own _, i.ty c.cls eb, kit_self, _, rfl, iteT ?_⟩
      refine ⟨_, rfl, _, _, _, _, _, rfl, eg, c.cls, c.name, gF_name, _, rfl, _, _, _, _, _, rfl, eb, c.cls, c.name, gF_name, rfl, ?_⟩
      rw [show decide (V.str (nm t) = V.str (nm t')) = (t == t') by cases t <;> cases t' <;> decide +kernel]
      exact k
    · exact ⟨_, rfl, _, _, _, _, _, rfl, .own _, o, i.kit kd, _, rfl, iteF k⟩
theorem h_initX (T : Txt K mg aG dU C CV CM cs) (hU : Uni K w aG dU U us) (c : GCls K C) (D : Dc K C "Grid.__init__" s_Grid_WinitW) (sub : PySem.W.subIn K (.ref C) (.type "str") = some false) (hm_eq : HasM P w K mg base CX0 C "__eq__" 1 ["self", "other"] (spGEq K C U)) :
    HasGX P w K mg base (L2.CX P w) "Grid" C 3 ["self", "name"] (spInitX K C U cs) := by
  refine D.hasGX (mgv_ref T.gGrid) sc_Grid_WinitW (fun vs H Q E h => ?_) (fun kV doc pm an cdv ct us hl => match us, hl with | [_, _], _ => rfl) (fun f cdv A outer s H vs Q E gd hr h => ?_)
  · obtain ⟨p, dx, x, rfl, _⟩ := h
    rfl
  · obtain ⟨p, dx, x, rfl, hp, k⟩ := h
    have hu66 : (A.deeper (envOfC "Grid.__init__" (defScope s_Grid_WinitW) s.heap.objs.size f cdv)).units + 66 < cLine := by have := hr.un; omega
    refine ⟨_, (pss_cons
 (ps_if (pt_cmpR (op_notInG3 (ys := ["square", "triangle"]) hu66 hm_eq sub gd (hr.mono (by decide)) pass0) (pv 1) (pe_globV T.gGRIDS) (by rfl)) (pss_one
 (ps_raise rfl (takes_of rfl rfl rfl rfl) (pmk_own PySem.F.excBase_ValueError T.mInvalidGrid.q T.mInvalidGrid.g T.mInvalidGrid.k (raises_own T.mInvalidGrid.b T.mInvalidGrid.t) rfl))) pss_nil)
 (pss_cons
 (ps_fld (pv 0) (pv 1) rfl)
 (pss_cons
 (ps_fld (pv 0) (pe_ix ix_kdict (pe_globV T.g_UNITS) (pv 1) (fun _ _ => rfl)) rfl)
 (pss_cons
 (ps_fld (pv 0) (pe_op op_fdiv (pe_callB call_len_seq (by exact rfl) T.zlen PySem.boot_len (pa_cons (pe_ix ix_kdict (pe_globV T.g_UNITS) (pv 1) (fun _ _ => rfl)) pa_nil)) pe_int) rfl)
 (pss_one
 (ps_fld (pv 0) (pe_ifExp (pt_cmpR op_eq (pv 1) pe_str (nomark _)) pe_int pe_int) rfl)))))), ?_⟩
    refine ⟨_, rfl, ?_⟩
    rcases k with ⟨t, rfl, k⟩ | ⟨no, k⟩
    case inr =>
      rcases no with ⟨d, hd, ld, n1, n2⟩ | ⟨g, t, rfl, dg, eg⟩ | ⟨a, rfl, ea⟩
      · refine .inl (.inl ⟨d, aG, ["square", "triangle"], hd, rfl, hU.grids H, ld, by decide +kernel, _, rfl, ?_⟩)
        rw [show (List.map PyData.str [("square" : Str), "triangle"]).any (fun z => PyData.eqv z d) = false by simp [n1, n2]]
        exact iteT k
      · refine .inl (.inr ⟨g, dg, _, aG, rfl, rfl, eg, hU.grids H, fun y hy => ⟨g, t, .str y, false, rfl, ⟨dg, eg⟩, .inr ⟨.str, .str, rfl⟩, rfl, rfl⟩, _, rfl, ?_⟩)
        exact iteT k
      · exact .inr ⟨a, aG, ["square", "triangle"], rfl, rfl, ea, hU.grids H, _, rfl, iteT k⟩
    refine .inl (.inl ⟨.str (nm t), aG, ["square", "triangle"], .inl (.str _), rfl, hU.grids H, by cases t <;> decide +kernel, by decide +kernel, _, rfl, ?_⟩)
    rw [show (List.map PyData.str [("square" : Str), "triangle"]).any (fun z => PyData.eqv z (.str (nm t))) = true by cases t <;> decide +kernel]
    refine iteF ⟨_, rfl, _, rfl, _, _, _, _, rfl, hp, c.cls, c.name, by show 0 < 1000; decide, ?_⟩
    refine ⟨_, rfl, dU, _, _, rfl, rfl, hU.key t, _, rfl, _, _, _, _, rfl, upd_same, c.cls, c.units, by show 1 < 1000; decide, ?_⟩
    refine ⟨_, rfl, dU, _, _, rfl, rfl, hU.key t, U t, _, rfl, .inr (hU.tup t _), _, _, rfl, rfl, ⟨by decide, by decide⟩, _, rfl, _, _, _, _, rfl, upd_same, c.cls, c.half, Nat.lt_of_le_of_lt (small_put (n := 1) (small_put (n := 0) (Nat.le_refl 0))) (by decide), ?_⟩
    rw [List.length_map, hU.len t]
    refine ⟨_, rfl, rfl, _, rfl, ?_⟩
    rw [show decide (V.str (nm t) = V.str "triangle") = t from by cases t <;> decide +kernel]
    have fin : ∀ v, v = V.int (sl t) → (∃ y, (L2.start N_Grid_WinitW [V.ref p, V.str (nm t)])[0]? = some (some y) ∧ ∃ a C' dx' fs, y = V.ref a ∧ (upd (upd (upd H p (.ins C dx (putF "name" (V.str (nm t)) []))) p (.ins C dx (putF "units" (V.ref (U t)) (putF "name" (V.str (nm t)) [])))) p (.ins C dx (putF "half" (V.int ((num t : Int) / 2)) (putF "units" (V.ref (U t)) (putF "name" (V.str (nm t)) []))))) a = some (.ins C' dx' fs) ∧ Cls K C' ∧ NoAttr K C' "slant" ∧ fs.length < 1000 ∧ Q .non (upd (upd (upd (upd H p (.ins C dx (putF "name" (V.str (nm t)) []))) p (.ins C dx (putF "units" (V.ref (U t)) (putF "name" (V.str (nm t)) [])))) p (.ins C dx (putF "half" (V.int ((num t : Int) / 2)) (putF "units" (V.ref (U t)) (putF "name" (V.str (nm t)) []))))) a (.ins C' dx' (putF "slant" v fs)))) := by
      rintro _ rfl
      refine ⟨_, rfl, _, _, _, _, rfl, upd_same, c.cls, c.slant, Nat.lt_of_le_of_lt (small_put (n := 2) (small_put (n := 1) (small_put (n := 0) (Nat.le_refl 0)))) (by decide), k _ (fun b hb => by rw [upd_ne hb, upd_ne hb, upd_ne hb, upd_ne hb]) ?_⟩
      rw [upd_same]
      rw [show putF "name" (V.str (nm t)) [] = [(("name" : Str), V.str (nm t))] from rfl, put2 (by decide), put3 (by decide) (by decide), put4 (by decide) (by decide) (by decide)]
      rfl
    cases t with
    | false => exact iteF (fin _ rfl)
    | true => exact iteT (fin _ rfl)
theorem h_vinitX (T : Txt K mg aG dU C CV CM cs) (c : GCls K C) (i : GIs K C) (vc : VCls K CV) (D : Dc K CV "Vector.__init__" s_Vector_WinitW) (h_check_point : Has P w K mg base (L2.CX P w) "_check_point" 3 ["point"] (spCheckPX K cs)) (hnorm_in : Has P w K mg base CX0 "norm_in" 1 ["grid", "point"] (spNorm K C U)) :
    HasGX P w K mg base (L2.CX P w) "Vector" CV 4 ["self", "grid", "point"] (spVInitX K C U CV cs) := by
  refine D.hasGX (mgv_ref T.gVector) sc_Vector_WinitW (fun vs H Q E h => ?_) (fun kV doc pm an cdv ct us hl => match us, hl with | [_, _, _], _ => rfl) (fun f cdv A outer s H vs Q E gd hr h => ?_)
  · obtain ⟨p, dx, gx, x, rfl, _⟩ := h
    rfl
  · obtain ⟨p, dx, gx, x, rfl, hp, k⟩ := h
    refine ⟨_, (pss_cons
 (ps_if (pt_not (pt_val (pe_callB call_isi (by exact rfl) T.zisinstance (by decide +kernel) (pa_cons (pv 1) (pa_cons (pe_globV T.gGrid) pa_nil))))) (pss_one
 (ps_raise rfl (takes_of rfl rfl rfl rfl) (pmk_own PySem.F.excBase_ValueError T.mInvalidGrid.q T.mInvalidGrid.g T.mInvalidGrid.k (raises_own T.mInvalidGrid.b T.mInvalidGrid.t) rfl))) pss_nil)
 (pss_cons
 (ps_expr (pe_callH h_check_point gd (hr.mono (by decide)) (passes_call (takes_of rfl rfl rfl rfl) (fun _ _ _ _ e => e)) (pa_cons (pv 2) pa_nil)))
 (pss_cons
 (ps_fld (pv 0) (pv 1) rfl)
 (pss_cons
 (ps_fld (pv 0) (pv 2) rfl)
 (pss_one
 (ps_fld (pv 0) (pe_callH hnorm_in gd (hr.mono (by decide)) pass0 (pa_cons (pv 1) (pa_cons (pv 2) pa_nil))) rfl)))))), ?_⟩
    rcases k with ⟨Ty, ty, kt, k⟩ | ⟨g, t, rfl, hg, pt, k0⟩ | ⟨g, t, a, u, rfl, rfl, hg, pu, ou, k⟩
    · exact ⟨_, rfl, _, _, _, _, _, rfl, .own _, ty, kt, _, rfl, (iteT k : if (!false) = true then _ else _)⟩
    · obtain ⟨dg, eg⟩ := id hg
      refine ⟨_, rfl, _, _, _, _, _, rfl, .own _, i.ty c.cls eg, kit_self, _, rfl, (iteF ?_ : if (!true) = true then _ else _)⟩
      exact ⟨_, rfl, _, false, rfl, pt, (fun z => by cases z), fun _ => k0⟩
    obtain ⟨dg, eg⟩ := id hg
    have gp : g ≠ p := fun z => by rw [z, hp] at eg; cases eg
    refine ⟨_, rfl, _, _, _, _, _, rfl, .own _, i.ty c.cls eg, kit_self, _, rfl, (iteF ?_ : if (!true) = true then _ else _)⟩
    refine ⟨_, rfl, .ref a, true, rfl, .inl (pt_of pu ou), fun _ => ?_, fun z => by cases z⟩
    refine ⟨_, rfl, _, rfl, _, _, _, _, rfl, hp, vc.cls, vc.grid, by show 0 < 1000; decide, ?_⟩
    refine ⟨_, rfl, _, rfl, _, _, _, _, rfl, upd_same, vc.cls, vc.point, by show 1 < 1000; decide, ?_⟩
    have keep : ∀ {o1 o2 : HO} {b : Addr}, b ≠ p → upd (upd H p o1) p o2 b = H b := fun n => by rw [upd_ne n, upd_ne n]
    refine ⟨_, rfl, _, rfl, g, t, a, u, rfl, ⟨dg, by rw [keep gp]; exact eg⟩, ?_, ptOk_sm ou.1 ou.2, ?_⟩
    · rcases pu with (z | ⟨o, z⟩) | z
      · exact .inl (.inl (by rw [keep (ne_of z hp (by intro e; cases e))]; exact z))
      · exact .inl (.inr ⟨o, by rw [keep (ne_of z hp (by intro e; cases e))]; exact z⟩)
      · exact .inr z
    refine ⟨_, rfl, _, _, _, _, rfl, upd_same, vc.cls, vc.norm, Nat.lt_of_le_of_lt (small_put (n := 1) (small_put (n := 0) (Nat.le_refl 0))) (by decide), k _ (fun b hb => by rw [upd_ne hb, upd_ne hb, upd_ne hb]) ?_⟩
    rw [upd_same]
    rw [show putF "grid" (V.ref g) [] = [(("grid" : Str), V.ref g)] from rfl, put2 (by decide), put3 (by decide) (by decide)]
    rfl
theorem h_minit (vc : VCls K CM) (D : Dc K CM "MadeVector.__init__" s_MadeVector_WinitW) (m : mg "MadeVector" = some (.ref CM)) (hnorm_in : Has P w K mg base CX0 "norm_in" 1 ["grid", "point"] (spNorm K C U)) :
    HasG P w K mg base "MadeVector" CM 2 ["self", "grid", "point"] (spVInit K C U CM Sm) := by
  refine D.hasG m sc_MadeVector_WinitW (fun vs H Q E h => ?_) (fun kV doc pm an cdv ct us hl => match us, hl with | [_, _, _], _ => rfl) (fun f cdv A outer s H vs Q E gd hr h => ?_)
  · obtain ⟨p, dx, g, a, t, u, rfl, _⟩ := h
    rfl
  · obtain ⟨p, dx, g, a, t, u, rfl, hp, hg, pu, su, k⟩ := h
    refine ⟨_, (pss_cons
 (ps_fld (pv 0) (pv 1) rfl)
 (pss_cons
 (ps_fld (pv 0) (pv 2) rfl)
 (pss_one
 (ps_fld (pv 0) (pe_callH hnorm_in gd (hr.mono (by decide)) pass0 (pa_cons (pv 1) (pa_cons (pv 2) pa_nil))) rfl)))), ?_⟩
    obtain ⟨dg, eg⟩ := id hg
    have gp : g ≠ p := fun z => by rw [z, hp] at eg; cases eg
    refine ⟨_, rfl, _, rfl, _, _, _, _, rfl, hp, vc.cls, vc.grid, by show 0 < 1000; decide, ?_⟩
    refine ⟨_, rfl, _, rfl, _, _, _, _, rfl, upd_same, vc.cls, vc.point, by show 1 < 1000; decide, ?_⟩
    have keep : ∀ {o1 o2 : HO} {b : Addr}, b ≠ p → upd (upd H p o1) p o2 b = H b := fun n => by rw [upd_ne n, upd_ne n]
    refine ⟨_, rfl, _, rfl, g, t, a, u, rfl, ⟨dg, by rw [keep gp]; exact eg⟩, ?_, su, ?_⟩
    · rcases pu with (z | ⟨o, z⟩) | z
      · exact .inl (.inl (by rw [keep (ne_of z hp (by intro e; cases e))]; exact z))
      · exact .inl (.inr ⟨o, by rw [keep (ne_of z hp (by intro e; cases e))]; exact z⟩)
      · exact .inr z
    refine ⟨_, rfl, _, _, _, _, rfl, upd_same, vc.cls, vc.norm, Nat.lt_of_le_of_lt (small_put (n := 1) (small_put (n := 0) (Nat.le_refl 0))) (by decide), k _ (fun b hb => by rw [upd_ne hb, upd_ne hb, upd_ne hb]) ?_⟩
    rw [upd_same]
    rw [show putF "grid" (V.ref g) [] = [(("grid" : Str), V.ref g)] from rfl, put2 (by decide), put3 (by decide) (by decide)]
    rfl
theorem h_partnerX (T : Txt K mg aG dU C CV CM cs) (c : GCls K C) (i : GIs K C) (vi : VIs K C CV CM) (vc : ∀ D, IsV CV CM D → VCls K D) (D : Df K mg "_check_partner" s__check_partner) (hm_eq : HasM P w K mg base CX0 C "__eq__" 1 ["self", "other"] (spGEq K C U)) :
    Has P w K mg base (L2.CX P w) "_check_partner" 3 ["vector", "other"] (spPartX K C U CV CM cs) := by
  have eqc := i.eq
  refine D.hasX sc__check_partner (fun vs H Q E h => ?_) (fun kV doc pm an cdv ct us hl => match us, hl with | [_, _], _ => rfl) (fun f cdv A outer s H vs Q E gd hr h => ?_)
  · obtain ⟨v, D, t, u, y, rfl, _⟩ := h
    rfl
  · obtain ⟨v, D, t, u, y, rfl, iv, hv, k⟩ := h
    refine ⟨_, (pss_one
 (ps_if (PW.pt (pw_or (pt_not (pt_val (pe_callB call_isi (by exact rfl) T.zisinstance (by decide +kernel) (pa_cons (pv 1) (pa_cons (pe_globV T.gVector) pa_nil))))) (pw_or1 (pt_cmpR (op_neA hm_eq eqc gd (hr.mono (by decide)) pass0) (pe_fld (pv 0) rfl) (pe_fld (pv 1) rfl) (nomark _))))) (pss_one
 (ps_raise rfl (takes_of rfl rfl rfl rfl) (pmk_own PySem.F.excBase_ValueError T.mInvalidOperation.q T.mInvalidOperation.g T.mInvalidOperation.k (raises_own T.mInvalidOperation.b T.mInvalidOperation.t) rfl))) pss_nil)), ?_⟩
    rcases k with ⟨Ty, ty, kt, k⟩ | ⟨w', D', t', z, rfl, iw, hw, k1, k0⟩
    · exact ⟨_, rfl, _, _, _, _, _, rfl, .own _, ty, kt, _, rfl, (iteT (iteT k) : if (!false) = true then _ else _)⟩
    have ty := hw.ty (vi.is iw) (vc _ iw).cls
    obtain ⟨dv, gv, av, ev, hgv, pv'⟩ := id hv
    obtain ⟨dw, gw, aw, ew, hgw, pw'⟩ := id hw
    obtain ⟨dg, eg⟩ := id hgv
    obtain ⟨dg2, eg2⟩ := id hgw
    refine ⟨_, rfl, _, _, _, _, _, rfl, .own _, ty, vi.kit iw, _, rfl, (iteF ?_ : if (!true) = true then _ else _)⟩
    refine ⟨_, rfl, _, _, _, _, _, rfl, ev, (vc _ iv).cls, (vc _ iv).grid, vF_grid, _, rfl, _, _, _, _, _, rfl, ew, (vc _ iw).cls, (vc _ iw).grid, vF_grid, ?_⟩
    refine ⟨gv, dg, _, _, rfl, eg, i.ty c.cls eg2, nf_self, gv, t, _, (t == t'), rfl, hgv, .inl ⟨gw, t', rfl, hgw, rfl⟩, (t == t'), rfl, _, rfl, ?_⟩
    by_cases e : t = t'
    · subst e
      rw [beq_self_eq_true]
      exact iteF (k1 rfl)
    · rw [show (t == t') = false from beq_eq_false_iff_ne.mpr e]
      exact iteT (k0 e)
end
end K07
namespace K07
open PySem PySem.Spec PyProof.Rows L2 GL PySem.GLE LamX
abbrev s_plus : Stmt := topS 2
abbrev N_plus : List Str := ["one", "other"]
theorem sc_plus : FnScope N_plus ["one", "other"] (defScope s_plus) := ⟨rfl, rfl, rfl, by decide +kernel, rfl, by decide +kernel, by decide +kernel⟩
abbrev s_minus : Stmt := topS 3
abbrev N_minus : List Str := ["one", "other"]
theorem sc_minus : FnScope N_minus ["one", "other"] (defScope s_minus) := ⟨rfl, rfl, rfl, by decide +kernel, rfl, by decide +kernel, by decide +kernel⟩
abbrev s_raised : Stmt := topS 9
abbrev N_raised : List Str := ["grid", "point", "many", "half", "whole"]
theorem sc_raised : FnScope N_raised ["grid", "point", "many"] (defScope s_raised) := ⟨rfl, rfl, rfl, by decide +kernel, rfl, by decide +kernel, by decide +kernel⟩
abbrev s_Vector_WaddW : Stmt := inClass (topS 31) 6
abbrev N_Vector_WaddW : List Str := ["self", "other"]
theorem sc_Vector_WaddW : FnScope N_Vector_WaddW ["self", "other"] (defScope s_Vector_WaddW) := ⟨rfl, rfl, rfl, by decide +kernel, rfl, by decide +kernel, by decide +kernel⟩
abbrev s_Vector_WsubW : Stmt := inClass (topS 31) 7
abbrev N_Vector_WsubW : List Str := ["self", "other"]
theorem sc_Vector_WsubW : FnScope N_Vector_WsubW ["self", "other"] (defScope s_Vector_WsubW) := ⟨rfl, rfl, rfl, by decide +kernel, rfl, by decide +kernel, by decide +kernel⟩
abbrev s_Vector_WmulW : Stmt := inClass (topS 31) 8
abbrev N_Vector_WmulW : List Str := ["self", "other"]
theorem sc_Vector_WmulW : FnScope N_Vector_WmulW ["self", "other"] (defScope s_Vector_WmulW) := ⟨rfl, rfl, rfl, by decide +kernel, rfl, by decide +kernel, by decide +kernel⟩
abbrev s_Vector_WfloordivW : Stmt := inClass (topS 31) 9
abbrev N_Vector_WfloordivW : List Str := ["self", "other", "point"]
theorem sc_Vector_WfloordivW : FnScope N_Vector_WfloordivW ["self", "other"] (defScope s_Vector_WfloordivW) := ⟨rfl, rfl, rfl, by decide +kernel, rfl, by decide +kernel, by decide +kernel⟩
abbrev s_Vector_turned : Stmt := inClass (topS 31) 1
abbrev N_Vector_turned : List Str := ["self", "turn"]
theorem sc_Vector_turned : FnScope N_Vector_turned ["self", "turn"] (defScope s_Vector_turned) := ⟨rfl, rfl, rfl, by decide +kernel, rfl, by decide +kernel, by decide +kernel⟩
abbrev s_Vector_power : Stmt := inClass (topS 31) 3
abbrev N_Vector_power : List Str := ["self", "many"]
theorem sc_Vector_power : FnScope N_Vector_power ["self", "many"] (defScope s_Vector_power) := ⟨rfl, rfl, rfl, by decide +kernel, rfl, by decide +kernel, by decide +kernel⟩
abbrev s_Vector_WgetitemW : Stmt := inClass (topS 31) 4
abbrev N_Vector_WgetitemW : List Str := ["self", "index"]
theorem sc_Vector_WgetitemW : FnScope N_Vector_WgetitemW ["self", "index"] (defScope s_Vector_WgetitemW) := ⟨rfl, rfl, rfl, by decide +kernel, rfl, by decide +kernel, by decide +kernel⟩
/-- y is no partner of a vector of the grid t -/
def NoPart (K : PySem.W.Frag) (C : Addr) (U : Bool → Addr) (CV CM : Addr) (H : Hp) (t : Bool) (y : V) : Prop := (∃ T, TyX K H y T ∧ PySem.W.kitOne K T (.ref CV) = some false) ∨ (∃ w D' t' z, y = .ref w ∧ IsV CV CM D' ∧ VecAt K C U D' H w t' z ∧ t ≠ t')
def spVBad (K : PySem.W.Frag) (C : Addr) (U : Bool → Addr) (CV CM : Addr) (cs : Cs) : Sp := fun vs H Q E => ∃ v D t u y, vs = [.ref v, y] ∧ IsV CV CM D ∧ VecAt K C U D H v t u ∧ NoPart K C U CV CM H t y ∧ E (.ref cs.O) none H
def spVDivX (K : PySem.W.Frag) (C : Addr) (U : Bool → Addr) (CV CM : Addr) (cs : Cs) : Sp := fun vs H Q E => ∃ v D t u y, vs = [.ref v, y] ∧ IsV CV CM D ∧ VecAt K C U D H v t u ∧
  ((NoPart K C U CV CM H t y ∧ E (.ref cs.O) none H) ∨
   (∃ w D' z, y = .ref w ∧ IsV CV CM D' ∧ VecAt K C U D' H w t z ∧ Sm u ∧ Sm z ∧ Sm (flip t z) ∧ Sm (low t u z) ∧ (nrm t z).natAbs < 2 ^ 8000 ∧ (quo0 t u z = none → ∀ d a H', Same H H' → H' d = none → PAt K H' a z → E (.ref cs.Q) (some d) (upd H' d (.xd [("divisor", .ref a)]))) ∧
    (∀ q, quo0 t u z = some q → Sm q ∧ VNew K C U CM H t q Q)))
def spVTurnX (K : PySem.W.Frag) (C : Addr) (U : Bool → Addr) (CV CM : Addr) (cs : Cs) : Sp := fun vs H Q E => ∃ v D t u n kd, vs = [.ref v, n] ∧ IsV CV CM D ∧ VecAt K C U D H v t u ∧ Of K H n kd ∧ isIntV n = false ∧ BadN cs H n E
def spVPowX (K : PySem.W.Frag) (C : Addr) (U : Bool → Addr) (CV CM : Addr) (cs : Cs) : Sp := fun vs H Q E => ∃ v D t u n kd, vs = [.ref v, n] ∧ IsV CV CM D ∧ VecAt K C U D H v t u ∧ Of K H n kd ∧ Sm u ∧
  (∀ m : Nat, n = .int m → m ≤ 1000 → (∀ i, i ≤ m → Sm (pw t u i)) ∧ VNew K C U CM H t (pw t u m) Q) ∧ ((¬ ∃ m : Nat, n = .int m ∧ m ≤ 1000) → BadN cs H n E)
def spVItemX (K : PySem.W.Frag) (C : Addr) (U : Bool → Addr) (CV CM : Addr) (cs : Cs) : Sp := fun vs H Q E => ∃ v D t u n kd, vs = [.ref v, n] ∧ IsV CV CM D ∧ VecAt K C U D H v t u ∧ Of K H n kd ∧ (n = .int 0 ∨ n = .int 1 → ∀ x, Q x H) ∧ (¬ (n = .int 0 ∨ n = .int 1) → BadN cs H n E)
section
variable {P : Program} {w : World} {K : PySem.W.Frag} {mg : Str → Option Value} {base : Heap}
variable {aG dU C CV CM : Addr} {U : Bool → Addr} {us : Bool → List Addr} {cs : Cs}
theorem small_nat {n : Nat} (h : n ≤ 1000) : isIntV (.int (n : Int)) = true := short_of (by rw [Int.natAbs_natCast]; exact Nat.le_trans h (by decide))
theorem h_plus (D : Df K mg "plus" s_plus) : Has P w K mg base CX0 "plus" 1 ["one", "other"] (spPlus K) := by
  refine D.has sc_plus (fun vs H Q E h => ?_) (fun kV doc pm an cdv ct us hl => match us, hl with | [_, _], _ => rfl) (fun f cdv A outer s H vs Q E gd hr h => ?_)
  · obtain ⟨a, b, u, v, rfl, _⟩ := h
    rfl
  · obtain ⟨a, b, u, v, rfl, pu, pv', k⟩ := h
    refine ⟨_, (pss_one
 (ps_ret (pe_tup (pa_cons (pe_op op_add (pe_ix ix_tup (pv 0) pe_int (fun _ _ => rfl)) (pe_ix ix_tup (pv 1) pe_int (fun _ _ => rfl))) (pa_cons (pe_op op_add (pe_ix ix_tup (pv 0) pe_int (fun _ _ => rfl)) (pe_ix ix_tup (pv 1) pe_int (fun _ _ => rfl))) pa_nil))))), ?_⟩
    exact ⟨_, rfl, _, _, _, _, rfl, rfl, pu, atI_nat (j := 0) rfl, _, rfl, _, _, _, _, rfl, rfl, pv', atI_nat (j := 0) rfl, _, _, rfl, rfl, _, rfl, _, _, _, _, rfl, rfl, pu, atI_nat (j := 1) rfl, _, rfl, _, _, _, _, rfl, rfl, pv', atI_nat (j := 1) rfl, _, _, rfl, rfl, by show 2 ≤ sizeLine; decide, fun p hp => k p hp⟩
theorem h_minus (D : Df K mg "minus" s_minus) : Has P w K mg base CX0 "minus" 1 ["one", "other"] (spMinus K) := by
  refine D.has sc_minus (fun vs H Q E h => ?_) (fun kV doc pm an cdv ct us hl => match us, hl with | [_, _], _ => rfl) (fun f cdv A outer s H vs Q E gd hr h => ?_)
  · obtain ⟨a, b, u, v, rfl, _⟩ := h
    rfl
  · obtain ⟨a, b, u, v, rfl, pu, pv', k⟩ := h
    refine ⟨_, (pss_one
 (ps_ret (pe_tup (pa_cons (pe_op op_sub (pe_ix ix_tup (pv 0) pe_int (fun _ _ => rfl)) (pe_ix ix_tup (pv 1) pe_int (fun _ _ => rfl))) (pa_cons (pe_op op_sub (pe_ix ix_tup (pv 0) pe_int (fun _ _ => rfl)) (pe_ix ix_tup (pv 1) pe_int (fun _ _ => rfl))) pa_nil))))), ?_⟩
    exact ⟨_, rfl, _, _, _, _, rfl, rfl, pu, atI_nat (j := 0) rfl, _, rfl, _, _, _, _, rfl, rfl, pv', atI_nat (j := 0) rfl, _, _, rfl, rfl, _, rfl, _, _, _, _, rfl, rfl, pu, atI_nat (j := 1) rfl, _, rfl, _, _, _, _, rfl, rfl, pv', atI_nat (j := 1) rfl, _, _, rfl, rfl, by show 2 ≤ sizeLine; decide, fun p hp => k p hp⟩
theorem raised_none (D : Df K mg "raised" s_raised) : Has P w K mg base CX0 "raised" 1 ["grid", "point", "many"] (fun _ _ _ _ => False) :=
  D.has sc_raised (fun _ _ _ _ h => h.elim) (fun kV doc pm an cdv ct us hl => match us, hl with | [_, _, _], _ => rfl) (fun f cdv A outer s H vs Q E gd hr h => h.elim)
theorem raised_step {j k : Nat} {sp : Sp} (hk : 1 ≤ k) (D : Df K mg "raised" s_raised) (htimes : Has P w K mg base CX0 "times" 1 ["grid", "one", "other"] (spTimes K C U)) (hraised : Has P w K mg base CX0 "raised" k ["grid", "point", "many"] sp)
    (hs : ∀ g t a u (n : Nat) H Q', GridAt C U H g t → PAt K H a u → Sm u → 0 < n → n < 2 ^ j → (∀ i, i ≤ n → Sm (pw t u i)) → (∀ p H', H p = none → Same H H' → PAt K H' p (pw t u (n / 2)) → Q' (.ref p) H') → sp [.ref g, .ref a, .int ((n : Int) / 2)] H Q' E0) :
    Has P w K mg base CX0 "raised" (k + 1) ["grid", "point", "many"] (spRaised K C U j) := by
  refine D.has sc_raised (fun vs H Q E h => ?_) (fun kV doc pm an cdv ct us hl => match us, hl with | [_, _, _], _ => rfl) (fun f cdv A outer s H vs Q E gd hr h => ?_)
  · obtain ⟨g, t, a, u, n, rfl, _⟩ := h
    rfl
  · have hr1 := hr.mono hk
    refine ⟨_, (pss_cons
 (ps_if (pt_cmpR op_eq (pv 2) pe_int (nomark _)) (pss_one
 (ps_ret (pe_tup (pa_cons pe_int (pa_cons pe_int pa_nil))))) pss_nil)
 (pss_cons
 (ps_set (i := 3) sc_raised.nd rfl (Or.inl rfl) (pe_callH hraised gd (hr.mono (by omega)) pass0 (pa_cons (pv 0) (pa_cons (pv 1) (pa_cons (pe_op op_fdiv (pv 2) pe_int) pa_nil)))))
 (pss_cons
 (ps_set (i := 4) sc_raised.nd rfl (Or.inl rfl) (pe_callH htimes gd (hr.mono (by omega)) pass0 (pa_cons (pv 0) (pa_cons (pv 3) (pa_cons (pv 3) pa_nil)))))
 (pss_one
 (ps_ret (pe_ifExp (pt_cmpR op_eq (pe_op op_mod (pv 2) pe_int) pe_int (nomark _)) (pe_callH htimes gd (hr.mono (by omega)) pass0 (pa_cons (pv 0) (pa_cons (pv 4) (pa_cons (pv 1) pa_nil)))) (pv 4))))))), ?_⟩
    obtain ⟨g, t, a, u, n, rfl, hg, pu, su, hn, sm, fin⟩ := h
    refine ⟨_, rfl, rfl, _, rfl, ?_⟩
    rw [int_eq]
    by_cases n0 : n = 0
    · subst n0
      rw [decide_eq_true (show ((0 : Nat) : Int) = 0 from rfl)]
      exact iteT ⟨by show 2 ≤ sizeLine; decide, fun p hp => fin p _ hp (Same.new hp) (PAt.of upd_same)⟩
    rw [decide_eq_false (by omega)]
    refine iteF ⟨_, rfl, _, rfl, _, rfl, _, _, rfl, rfl, ⟨by decide, by decide⟩, hs g t a u n H _ hg pu su (by omega) hn sm fun h1 H1 n1 s1 p1 => ?_⟩
    have le2 : n / 2 ≤ n := Nat.div_le_self _ _
    refine ⟨_, rfl, _, rfl, _, rfl, g, t, h1, h1, _, _, rfl, hg.same s1, p1, p1, sm _ le2, sm _ le2, fun h2 n2 => ?_⟩
    rw [pw_add]
    have s2 := s1.trans (Same.new (o := .tup [.int (pw t u (n / 2 + n / 2)).1, .int (pw t u (n / 2 + n / 2)).2]) n2)
    have p2 : PAt K (upd H1 h2 (.tup [.int (pw t u (n / 2 + n / 2)).1, .int (pw t u (n / 2 + n / 2)).2])) h2 (pw t u (n / 2 + n / 2)) := PAt.of upd_same
    have hh2 : H h2 = none := by cases e : H h2 with | none => rfl | some o => rw [s1 _ _ e] at n2; cases n2
    change (fun H2 => _) (upd H1 h2 (.tup [.int (pw t u (n / 2 + n / 2)).1, .int (pw t u (n / 2 + n / 2)).2]))
    generalize upd H1 h2 (.tup [.int (pw t u (n / 2 + n / 2)).1, .int (pw t u (n / 2 + n / 2)).2]) = H2 at *
    refine ⟨_, rfl, _, _, rfl, rfl, (by show (0 : Int) < 2; decide), rfl, _, rfl, ?_⟩
    rw [int_eq]
    by_cases odd : (n : Int) % 2 = 1
    · rw [decide_eq_true odd]
      refine iteT ⟨_, rfl, _, rfl, _, rfl, g, t, h2, a, _, _, rfl, hg.same s2, p2, pu.same s2, sm _ (by omega), su, fun h3 n3 => ?_⟩
      have e : mul t (pw t u (n / 2 + n / 2)) u = pw t u n := by
        rw [show mul t (pw t u (n / 2 + n / 2)) u = pw t u (n / 2 + n / 2 + 1) from rfl, show n / 2 + n / 2 + 1 = n by omega]
      rw [e]
      have hh3 : H h3 = none := by cases e : H h3 with | none => rfl | some o => rw [s2 _ _ e] at n3; cases n3
      exact fin h3 _ hh3 (s2.trans (Same.new n3)) (PAt.of upd_same)
    · rw [decide_eq_false odd]
      refine iteF ⟨_, rfl, fin h2 H2 hh2 s2 ?_⟩
      rw [show n / 2 + n / 2 = n by omega] at p2
      exact p2
theorem h_raised (D : Df K mg "raised" s_raised) (htimes : Has P w K mg base CX0 "times" 1 ["grid", "one", "other"] (spTimes K C U)) : ∀ j : Nat, Has P w K mg base CX0 "raised" (j + 2) ["grid", "point", "many"] (spRaised K C U j)
  | 0 => raised_step (k := 1) (by omega) D htimes (raised_none D) (fun g t a u n H Q' _ _ _ n0 n1 _ _ => absurd n0 (by omega))
  | j + 1 => raised_step (k := j + 2) (by omega) D htimes (h_raised D htimes j) (fun g t a u n H Q' hg pu su n0 n1 sm fin => ⟨g, t, a, u, n / 2, rfl, hg, pu, su, by rw [Nat.pow_succ] at n1; omega, fun i hi => sm i (by omega), fin⟩)
/-- a new vector out of a made class -/
theorem mk_vec {D : Addr} {H1 : Hp} {g a : Addr} {t : Bool} {u : Int × Int} {ok : Int × Int → Prop} {Q : VK} {E : XK} (hg : GridAt C U H1 g t) (hp : PAt K H1 a u) (o : ok u) (k : VNew K C U D H1 t u Q) :
    ∀ x dx, H1 x = none → H1 dx = none → dx ≠ x → spVInit K C U D ok (.ref x :: ([.ref g, .ref a] ++ [])) (upd (upd H1 dx (.own x)) x (.ins D dx [])) (fun v H2 => v = .non ∧ Q (.ref x) H2) E := by
  intro x dx hx hdx ne
  have s1 : Same H1 (upd (upd H1 dx (.own x)) x (.ins D dx [])) := (Same.new hdx).trans (Same.new (by rw [upd_ne ne.symm]; exact hx))
  refine ⟨x, dx, g, a, t, u, rfl, upd_same, hg.same s1, hp.same s1, o, fun H' hk e => ⟨rfl, ?_⟩⟩
  have s2 : Same H1 H' := same_made hx hdx hk
  exact k x H' hx s2 ⟨dx, g, a, e, hg.same s2, hp.same s2⟩
theorem fresh_of {H H' : Hp} {r : Addr} (s : Same H H') (n : H' r = none) : H r = none := by
  cases e : H r with
  | none => rfl
  | some o => rw [s _ _ e] at n; cases n
theorem h_vadd {D0 : Addr} (D : Dm K D0 "__add__" "Vector.__add__" s_Vector_WaddW) (h_check_partner : Has P w K mg base (L2.CX P w) "_check_partner" 3 ["vector", "other"] (spPartX K C U CV CM cs)) (hplus : Has P w K mg base CX0 "plus" 1 ["one", "other"] (spPlus K)) (hMadeVector : HasG P w K mg base "MadeVector" CM 2 ["self", "grid", "point"] (spVInit K C U CM Sm)) :
    HasM P w K mg base (L2.CX P w) D0 "__add__" 4 ["self", "other"] (spVBad K C U CV CM cs) := by
  refine D.hasX sc_Vector_WaddW (fun vs H Q E h => ?_) (fun kV doc pm an cdv ct us hl => match us, hl with | [_, _], _ => rfl) (fun f cdv A outer s H vs Q E gd hr h => ?_)
  · obtain ⟨v, D, t, u, y, rfl, _⟩ := h
    rfl
  · obtain ⟨v, D, t, u, y, rfl, iv, hv, np, k⟩ := h
    refine ⟨_, (pss_cons
 (ps_expr (pe_callH h_check_partner gd (hr.mono (by decide)) (passes_call (takes_of rfl rfl rfl rfl) (fun _ _ _ _ e => e)) (pa_cons (pv 0) (pa_cons (pv 1) pa_nil))))
 (pss_one
 (ps_ret (pe_makeG hMadeVector gd (hr.mono (by decide)) pass0 (pa_cons (pe_fld (pv 0) rfl) (pa_cons (pe_callH hplus gd (hr.mono (by decide)) pass0 (pa_cons (pe_fld (pv 0) rfl) (pa_cons (pe_fld (pv 1) rfl) pa_nil))) pa_nil)))))), ?_⟩
    refine ⟨_, rfl, _, rfl, v, D, t, u, y, rfl, iv, hv, ?_⟩
    rcases np with ⟨Ty, ty, kt⟩ | ⟨w', D', t', z, rfl, iw, hw, ne⟩
    · exact .inl ⟨Ty, ty, kt, k⟩
    · exact .inr ⟨w', D', t', z, rfl, iw, hw, fun e => absurd e ne, fun _ => k⟩
theorem h_vsub {D0 : Addr} (D : Dm K D0 "__sub__" "Vector.__sub__" s_Vector_WsubW) (h_check_partner : Has P w K mg base (L2.CX P w) "_check_partner" 3 ["vector", "other"] (spPartX K C U CV CM cs)) (hminus : Has P w K mg base CX0 "minus" 1 ["one", "other"] (spMinus K)) (hMadeVector : HasG P w K mg base "MadeVector" CM 2 ["self", "grid", "point"] (spVInit K C U CM Sm)) :
    HasM P w K mg base (L2.CX P w) D0 "__sub__" 4 ["self", "other"] (spVBad K C U CV CM cs) := by
  refine D.hasX sc_Vector_WsubW (fun vs H Q E h => ?_) (fun kV doc pm an cdv ct us hl => match us, hl with | [_, _], _ => rfl) (fun f cdv A outer s H vs Q E gd hr h => ?_)
  · obtain ⟨v, D, t, u, y, rfl, _⟩ := h
    rfl
  · obtain ⟨v, D, t, u, y, rfl, iv, hv, np, k⟩ := h
    refine ⟨_, (pss_cons
 (ps_expr (pe_callH h_check_partner gd (hr.mono (by decide)) (passes_call (takes_of rfl rfl rfl rfl) (fun _ _ _ _ e => e)) (pa_cons (pv 0) (pa_cons (pv 1) pa_nil))))
 (pss_one
 (ps_ret (pe_makeG hMadeVector gd (hr.mono (by decide)) pass0 (pa_cons (pe_fld (pv 0) rfl) (pa_cons (pe_callH hminus gd (hr.mono (by decide)) pass0 (pa_cons (pe_fld (pv 0) rfl) (pa_cons (pe_fld (pv 1) rfl) pa_nil))) pa_nil)))))), ?_⟩
    refine ⟨_, rfl, _, rfl, v, D, t, u, y, rfl, iv, hv, ?_⟩
    rcases np with ⟨Ty, ty, kt⟩ | ⟨w', D', t', z, rfl, iw, hw, ne⟩
    · exact .inl ⟨Ty, ty, kt, k⟩
    · exact .inr ⟨w', D', t', z, rfl, iw, hw, fun e => absurd e ne, fun _ => k⟩
theorem h_vmul {D0 : Addr} (D : Dm K D0 "__mul__" "Vector.__mul__" s_Vector_WmulW) (h_check_partner : Has P w K mg base (L2.CX P w) "_check_partner" 3 ["vector", "other"] (spPartX K C U CV CM cs)) (htimes : Has P w K mg base CX0 "times" 1 ["grid", "one", "other"] (spTimes K C U)) (hMadeVector : HasG P w K mg base "MadeVector" CM 2 ["self", "grid", "point"] (spVInit K C U CM Sm)) :
    HasM P w K mg base (L2.CX P w) D0 "__mul__" 4 ["self", "other"] (spVBad K C U CV CM cs) := by
  refine D.hasX sc_Vector_WmulW (fun vs H Q E h => ?_) (fun kV doc pm an cdv ct us hl => match us, hl with | [_, _], _ => rfl) (fun f cdv A outer s H vs Q E gd hr h => ?_)
  · obtain ⟨v, D, t, u, y, rfl, _⟩ := h
    rfl
  · obtain ⟨v, D, t, u, y, rfl, iv, hv, np, k⟩ := h
    refine ⟨_, (pss_cons
 (ps_expr (pe_callH h_check_partner gd (hr.mono (by decide)) (passes_call (takes_of rfl rfl rfl rfl) (fun _ _ _ _ e => e)) (pa_cons (pv 0) (pa_cons (pv 1) pa_nil))))
 (pss_one
 (ps_ret (pe_makeG hMadeVector gd (hr.mono (by decide)) pass0 (pa_cons (pe_fld (pv 0) rfl) (pa_cons (pe_callH htimes gd (hr.mono (by decide)) pass0 (pa_cons (pe_fld (pv 0) rfl) (pa_cons (pe_fld (pv 0) rfl) (pa_cons (pe_fld (pv 1) rfl) pa_nil)))) pa_nil)))))), ?_⟩
    refine ⟨_, rfl, _, rfl, v, D, t, u, y, rfl, iv, hv, ?_⟩
    rcases np with ⟨Ty, ty, kt⟩ | ⟨w', D', t', z, rfl, iw, hw, ne⟩
    · exact .inl ⟨Ty, ty, kt, k⟩
    · exact .inr ⟨w', D', t', z, rfl, iw, hw, fun e => absurd e ne, fun _ => k⟩
theorem h_vdiv {D0 : Addr} (T : Txt K mg aG dU C CV CM cs) (vc : ∀ D, IsV CV CM D → VCls K D) (D : Dm K D0 "__floordiv__" "Vector.__floordiv__" s_Vector_WfloordivW) (h_check_partner : Has P w K mg base (L2.CX P w) "_check_partner" 3 ["vector", "other"] (spPartX K C U CV CM cs)) (hdivided : Has P w K mg base CX0 "divided" 2 ["grid", "point", "divisor"] (spDivX K C U)) (hMadeVector : HasG P w K mg base "MadeVector" CM 2 ["self", "grid", "point"] (spVInit K C U CM Sm)) :
    HasM P w K mg base (L2.CX P w) D0 "__floordiv__" 4 ["self", "other"] (spVDivX K C U CV CM cs) := by
  refine D.hasX sc_Vector_WfloordivW (fun vs H Q E h => ?_) (fun kV doc pm an cdv ct us hl => match us, hl with | [_, _], _ => rfl) (fun f cdv A outer s H vs Q E gd hr h => ?_)
  · obtain ⟨v, D, t, u, y, rfl, _⟩ := h
    rfl
  · obtain ⟨v, D, t, u, y, rfl, iv, hv, k⟩ := h
    refine ⟨_, (pss_cons
 (ps_expr (pe_callH h_check_partner gd (hr.mono (by decide)) (passes_call (takes_of rfl rfl rfl rfl) (fun _ _ _ _ e => e)) (pa_cons (pv 0) (pa_cons (pv 1) pa_nil))))
 (pss_cons
 (ps_set (i := 2) sc_Vector_WfloordivW.nd rfl (Or.inl rfl) (pe_callH hdivided gd (hr.mono (by decide)) pass0 (pa_cons (pe_fld (pv 0) rfl) (pa_cons (pe_fld (pv 0) rfl) (pa_cons (pe_fld (pv 1) rfl) pa_nil)))))
 (pss_cons
 (ps_if (pt_cmpR op_isN (pv 2) pe_non (nomark _)) (pss_one
 (ps_raise rfl (takes_of rfl rfl rfl rfl) (pmk_err T.eNoQuotient hr (pa_cons (pe_fld (pv 1) rfl) pa_nil)))) pss_nil)
 (pss_one
 (ps_ret (pe_makeG hMadeVector gd (hr.mono (by decide)) pass0 (pa_cons (pe_fld (pv 0) rfl) (pa_cons (pv 2) pa_nil)))))))), ?_⟩
    refine ⟨_, rfl, _, rfl, v, D, t, u, y, rfl, iv, hv, ?_⟩
    rcases k with ⟨np, k⟩ | ⟨w', D', z, rfl, iw, hw, su, sz, sf, sl, nn, kz, kq⟩
    · rcases np with ⟨Ty, ty, kt⟩ | ⟨w', D', t', z, rfl, iw, hw, ne⟩
      · exact .inl ⟨Ty, ty, kt, k⟩
      · exact .inr ⟨w', D', t', z, rfl, iw, hw, fun e => absurd e ne, fun _ => k⟩
    refine .inr ⟨w', D', t, z, rfl, iw, hw, fun _ => ?_, fun n => absurd rfl n⟩
    obtain ⟨dv, gv, av, ev, hgv, pv'⟩ := id hv
    obtain ⟨dw, gw, aw, ew, hgw, pw'⟩ := id hw
    refine ⟨_, rfl, _, _, _, _, _, rfl, ev, (vc _ iv).cls, (vc _ iv).grid, vF_grid, _, rfl, _, _, _, _, _, rfl, ev, (vc _ iv).cls, (vc _ iv).point, vF_point, _, rfl, _, _, _, _, _, rfl, ew, (vc _ iw).cls, (vc _ iw).point, vF_point, gv, t, av, aw, u, z, rfl, hgv, pv', pw', su, sz, sf, sl, nn, fun x H1 s1 qa => ?_⟩
    cases e : quo0 t u z with
    | none =>
      rw [e] at qa
      cases (show x = .non from qa)
      refine ⟨_, rfl, rfl, _, rfl, (iteT ?_ : if true = true then _ else _)⟩
      refine ⟨_, rfl, _, _, _, _, _, rfl, s1 _ _ ew, (vc _ iw).cls, (vc _ iw).point, vF_point, _, rfl, fun d nd => kz e d aw H1 s1 nd (pw'.same s1)⟩
    | some q =>
      rw [e] at qa
      obtain ⟨p, rfl, pp⟩ := qa
      obtain ⟨sq, k⟩ := kq q e
      refine ⟨_, rfl, rfl, _, rfl, (iteF ?_ : if false = true then _ else _)⟩
      refine ⟨_, rfl, _, _, _, _, _, rfl, s1 _ _ ev, (vc _ iv).cls, (vc _ iv).grid, vF_grid, _, rfl, ?_⟩
      exact mk_vec (hgv.same s1) pp sq fun r H' hr2 s2 hv2 => k r H' (fresh_of s1 hr2) (s1.trans s2) hv2
theorem h_vturned {D0 : Addr} (D : Dm K D0 "turned" "Vector.turned" s_Vector_turned) (h_check_number : Has P w K mg base (L2.CX P w) "_check_number" 2 ["number"] (spCheckNX K cs)) (hturned_by : Has P w K mg base CX0 "turned_by" 2 ["grid", "point", "turn"] (spTurned K C U)) (hMadeVector : HasG P w K mg base "MadeVector" CM 2 ["self", "grid", "point"] (spVInit K C U CM Sm)) :
    HasM P w K mg base (L2.CX P w) D0 "turned" 4 ["self", "turn"] (spVTurnX K C U CV CM cs) := by
  refine D.hasX sc_Vector_turned (fun vs H Q E h => ?_) (fun kV doc pm an cdv ct us hl => match us, hl with | [_, _], _ => rfl) (fun f cdv A outer s H vs Q E gd hr h => ?_)
  · obtain ⟨v, D, t, u, n, kd, rfl, _⟩ := h
    rfl
  · obtain ⟨v, D, t, u, n, kd, rfl, iv, hv, o, no, k⟩ := h
    refine ⟨_, (pss_cons
 (ps_expr (pe_callH h_check_number gd (hr.mono (by decide)) (passes_call (takes_of rfl rfl rfl rfl) (fun _ _ _ _ e => e)) (pa_cons (pv 1) pa_nil)))
 (pss_one
 (ps_ret (pe_makeG hMadeVector gd (hr.mono (by decide)) pass0 (pa_cons (pe_fld (pv 0) rfl) (pa_cons (pe_callH hturned_by gd (hr.mono (by decide)) pass0 (pa_cons (pe_fld (pv 0) rfl) (pa_cons (pe_fld (pv 0) rfl) (pa_cons (pv 1) pa_nil)))) pa_nil)))))), ?_⟩
    exact ⟨_, rfl, n, kd, rfl, o, fun y => absurd (no.symm.trans y) (by decide), fun _ => k⟩
theorem h_vpower {D0 : Addr} (T : Txt K mg aG dU C CV CM cs) (vc : ∀ D, IsV CV CM D → VCls K D) (D : Dm K D0 "power" "Vector.power" s_Vector_power) (his_integer : Has P w K mg base CX0 "is_integer" 1 ["value"] (spIsInt K)) (hraised : Has P w K mg base CX0 "raised" 12 ["grid", "point", "many"] (spRaised K C U 10)) (hMadeVector : HasG P w K mg base "MadeVector" CM 2 ["self", "grid", "point"] (spVInit K C U CM Sm)) :
    HasM P w K mg base (L2.CX P w) D0 "power" 13 ["self", "many"] (spVPowX K C U CV CM cs) := by
  refine D.hasX sc_Vector_power (fun vs H Q E h => ?_) (fun kV doc pm an cdv ct us hl => match us, hl with | [_, _], _ => rfl) (fun f cdv A outer s H vs Q E gd hr h => ?_)
  · obtain ⟨v, D, t, u, n, kd, rfl, _⟩ := h
    rfl
  · obtain ⟨v, D, t, u, n, kd, rfl, iv, hv, o, su, k1, k0⟩ := h
    refine ⟨_, (pss_cons
 (ps_if (PW.pt (pw_or (pt_not (pt_val (pe_callH his_integer gd (hr.mono (by decide)) pass0 (pa_cons (pv 1) pa_nil)))) (pw_or (pt_cmpR op_lt (pv 1) pe_int (nomark _)) (pw_or1 (pt_cmpR op_gt (pv 1) (pe_globV T.gMAX_POWER) (nomark _)))))) (pss_one
 (ps_raise rfl (takes_of rfl rfl rfl rfl) (pmk_err T.eInvalidNumber hr (pa_cons (pv 1) pa_nil)))) pss_nil)
 (pss_one
 (ps_ret (pe_makeG hMadeVector gd (hr.mono (by decide)) pass0 (pa_cons (pe_fld (pv 0) rfl) (pa_cons (pe_callH hraised gd (hr.mono (by decide)) pass0 (pa_cons (pe_fld (pv 0) rfl) (pa_cons (pe_fld (pv 0) rfl) (pa_cons (pv 1) pa_nil)))) pa_nil)))))), ?_⟩
    obtain ⟨dv, gv, av, ev, hgv, pv'⟩ := id hv
    refine ⟨_, rfl, _, _, rfl, o, _, rfl, ?_⟩
    cases hi : isIntV n with
    | false =>
      have bad := k0 (fun ⟨m, e, le⟩ => by subst e; rw [small_nat le] at hi; cases hi)
      refine (iteT ?_ : if (!false) = true then _ else _)
      refine iteT ?_
      exact ⟨_, rfl, _, rfl, fun d nd => bad d nd⟩
    | true =>
    obtain ⟨i, rfl⟩ := int_of hi
    refine (iteF ?_ : if (!true) = true then _ else _)
    refine ⟨_, rfl, _, _, rfl, rfl, _, rfl, ?_⟩
    by_cases i0 : i < 0
    · rw [decide_eq_true i0]
      have bad := k0 (fun ⟨m, e, le⟩ => by injection e with e; omega)
      exact iteT (iteT ⟨_, rfl, _, rfl, fun d nd => bad d nd⟩)
    rw [decide_eq_false i0]
    refine iteF ⟨_, rfl, _, _, rfl, rfl, _, rfl, ?_⟩
    by_cases i1 : (1000 : Int) < i
    · rw [decide_eq_true i1]
      have bad := k0 (fun ⟨m, e, le⟩ => by injection e with e; omega)
      exact iteT ⟨_, rfl, _, rfl, fun d nd => bad d nd⟩
    rw [decide_eq_false i1]
    obtain ⟨n, rfl⟩ : ∃ n : Nat, i = n := ⟨i.toNat, by omega⟩
    have ln : n ≤ 1000 := by omega
    obtain ⟨sm, k⟩ := k1 n rfl ln
    refine iteF ?_
    refine ⟨_, rfl, _, _, _, _, _, rfl, ev, (vc _ iv).cls, (vc _ iv).grid, vF_grid, _, rfl, _, _, _, _, _, rfl, ev, (vc _ iv).cls, (vc _ iv).grid, vF_grid, _, rfl, _, _, _, _, _, rfl, ev, (vc _ iv).cls, (vc _ iv).point, vF_point, _, rfl, gv, t, av, u, n, rfl, hgv, pv', su, Nat.lt_of_le_of_lt ln (by decide), sm, fun p H1 hp s1 pp => ?_⟩
    exact mk_vec (hgv.same s1) pp (sm n (Nat.le_refl n)) fun r H' hr2 s3 hv2 => k r H' (fresh_of s1 hr2) (s1.trans s3) hv2
theorem h_vitem {D0 : Addr} (T : Txt K mg aG dU C CV CM cs) (vc : ∀ D, IsV CV CM D → VCls K D) (D : Dm K D0 "__getitem__" "Vector.__getitem__" s_Vector_WgetitemW) (his_integer : Has P w K mg base CX0 "is_integer" 1 ["value"] (spIsInt K)) :
    HasM P w K mg base (L2.CX P w) D0 "__getitem__" 2 ["self", "index"] (spVItemX K C U CV CM cs) := by
  refine D.hasX sc_Vector_WgetitemW (fun vs H Q E h => ?_) (fun kV doc pm an cdv ct us hl => match us, hl with | [_, _], _ => rfl) (fun f cdv A outer s H vs Q E gd hr h => ?_)
  · obtain ⟨v, D, t, u, n, kd, rfl, _⟩ := h
    rfl
  · obtain ⟨v, D, t, u, n, kd, rfl, iv, hv, o, k1, k0⟩ := h
    refine ⟨_, (pss_cons
 (ps_if (PW.pt (pw_or (pt_not (pt_val (pe_callH his_integer gd (hr.mono (by decide)) pass0 (pa_cons (pv 1) pa_nil)))) (pw_or (pt_cmpR op_lt (pv 1) pe_int (nomark _)) (pw_or1 (pt_cmpR op_gt (pv 1) pe_int (nomark _)))))) (pss_one
 (ps_raise rfl (takes_of rfl rfl rfl rfl) (pmk_err T.eInvalidNumber hr (pa_cons (pv 1) pa_nil)))) pss_nil)
 (pss_one
 (ps_ret (pe_ix ix_tup (pe_fld (pv 0) rfl) (pv 1) (fun _ _ => rfl))))), ?_⟩
    obtain ⟨dv, gv, av, ev, hgv, pv'⟩ := id hv
    refine ⟨_, rfl, _, _, rfl, o, _, rfl, ?_⟩
    cases hi : isIntV n with
    | false =>
      have bad := k0 (fun z => by rcases z with rfl | rfl <;> (rw [show isIntV _ = true from short_of (by decide)] at hi; cases hi))
      refine (iteT ?_ : if (!false) = true then _ else _)
      refine iteT ?_
      exact ⟨_, rfl, _, rfl, fun d nd => bad d nd⟩
    | true =>
    obtain ⟨i, rfl⟩ := int_of hi
    refine (iteF ?_ : if (!true) = true then _ else _)
    refine ⟨_, rfl, _, _, rfl, rfl, _, rfl, ?_⟩
    by_cases i0 : i < 0
    · rw [decide_eq_true i0]
      have bad := k0 (fun z => by rcases z with e | e <;> (injection e with e; omega))
      exact iteT (iteT ⟨_, rfl, _, rfl, fun d nd => bad d nd⟩)
    rw [decide_eq_false i0]
    refine iteF ⟨_, rfl, _, _, rfl, rfl, _, rfl, ?_⟩
    by_cases i1 : (1 : Int) < i
    · rw [decide_eq_true i1]
      have bad := k0 (fun z => by rcases z with e | e <;> (injection e with e; omega))
      exact iteT ⟨_, rfl, _, rfl, fun d nd => bad d nd⟩
    rw [decide_eq_false i1]
    have k := k1 (by rcases (show i = 0 ∨ i = 1 by omega) with e | e <;> simp [e])
    refine iteF ⟨_, rfl, _, _, _, _, _, rfl, ev, (vc _ iv).cls, (vc _ iv).point, vF_point, _, rfl, ?_⟩
    rcases (show i = 0 ∨ i = 1 by omega) with rfl | rfl
    · exact ⟨_, _, _, _, rfl, rfl, pv', atI_nat (j := 0) rfl, k _⟩
    · exact ⟨_, _, _, _, rfl, rfl, pv', atI_nat (j := 1) rfl, k _⟩
end
end K07
namespace K07
open PySem PySem.Spec PyProof.Rows L2 GL PySem.GLE LamX
abbrev s__law_limit : Stmt := topS 38
abbrev N__law_limit : List Str := []
theorem sc__law_limit : FnScope N__law_limit [] (defScope s__law_limit) := ⟨rfl, rfl, rfl, by decide +kernel, rfl, by decide +kernel, by decide +kernel⟩
abbrev s__law_is_int : Stmt := topS 40
abbrev N__law_is_int : List Str := ["_law_value"]
theorem sc__law_is_int : FnScope N__law_is_int ["_law_value"] (defScope s__law_is_int) := ⟨rfl, rfl, rfl, by decide +kernel, rfl, by decide +kernel, by decide +kernel⟩
abbrev s__law_point_word : Stmt := topS 41
abbrev N__law_point_word : List Str := ["_law_value", "_law_is_pair"]
theorem sc__law_point_word : FnScope N__law_point_word ["_law_value"] (defScope s__law_point_word) := ⟨rfl, rfl, rfl, by decide +kernel, rfl, by decide +kernel, by decide +kernel⟩
abbrev s__law_first : Stmt := topS 42
abbrev N__law_first : List Str := ["_law_words", "_law_found", "_law_word"]
theorem sc__law_first : FnScope N__law_first ["_law_words"] (defScope s__law_first) := ⟨rfl, rfl, rfl, by decide +kernel, rfl, by decide +kernel, by decide +kernel⟩
theorem passX0 {P : Program} {w : World} {X : Cx} : Passes (L2.CX P w) X E0 := fun _ _ _ _ _ _ _ ⟨_, _, _, _, _, _, _, _, _, _, _, _, z⟩ => z.elim
/-- _law_met(lambda: body) -/
theorem pe_met {X : Cx} {cT : List (Addr × Str)} {c P : Addr} {cs : Cs} {k : Nat} {params : Arguments} {body : Expr} {scope : Scope} {t : XK → TE} {p lpos pos : Pos} (D : Df X.K X.mg "_law_met" s__law_met) (MT : MetT X.K X.mg cs) (dig : PySem.W.nsIn X.K cStatics "sys.int_max_str_digits" = some none)
    (glX : Gl X "_law_met") (TB : TabB X.base X.mg c P) (codeX : X.env.code = .ref c) (inT : (P, X.env.qual ++ "<lambda>") ∈ cT) (oneT : ∀ p ∈ cT, p.1 = P → p.2 = X.env.qual ++ "<lambda>") (gd : Gd X.A) (hr : Room (k + 2) X.A) (L : LamS X.env.scope scope) (noDef : defaultsOf params X.env = ([], []))
    (bindN : ∀ (q : Str) (cl : List (Str × Addr)) (pm cv ctv : Value), bindArgs (PySem.W.kla_fn "<lambda>" q params body scope cl pm cv ctv) ⟨[], []⟩ = pure [])
    (inBody : ∀ (A : Around) (outer : List Env) (s : Shared) (H : Hp) (E : XK) (f c' : Addr), Gd (A.deeper (lamEnv X scope s.heap.objs.size f c')) → Room k (A.deeper (lamEnv X scope s.heap.objs.size f c')) → PE (lamCx X A outer s H E scope f c') body (t E)) :
    PE X (.Call (.Name "_law_met" p) [.Lambda params body scope lpos] [] pos) (tLam cT (TMet X.K cs) t) := by
  obtain ⟨g, fd, F, m⟩ := D.ex
  obtain ⟨oc, od, kV, doc, pm, an, cdv, ct, osl, rfl, lk, hcd⟩ := F.ex
  exact pe_lam glX m F.kp lk hcd (F.binds (ps := ["_law_call"]) (fun kV doc pm an cdv ct us hl => match us, hl with | [_], _ => rfl)) sc__law_met rfl (.inl rfl) (met_gives MT dig gd hr) TB codeX inT oneT hr L noDef bindN gd inBody
section
variable {P : Program} {w : World} {K : PySem.W.Frag} {mg : Str → Option Value} {base : Heap}
variable {aG dU C CV CM : Addr} {U : Bool → Addr} {us : Bool → List Addr} {cs : Cs}
def wordOf (r : Bool) : Str := if r then "" else "point"
def spIsIntL (K : PySem.W.Frag) : Sp := fun vs H Q _ => ∃ x k, vs = [x] ∧ Of K H x k ∧ Q (.bl (isIntV x)) H
def spWord (K : PySem.W.Frag) : Sp := fun vs H Q _ => ∃ x r, vs = [x] ∧ PtG K H x r ∧ Q (.str (wordOf r)) H
def firstOf : List Str → Str
  | [] => Str.ofString ""
  | w :: r => if w = Str.ofString "" then firstOf r else w
def fulls (ws : List Str) : List Str := ws.filter fun w => !decide (w = Str.ofString "")
theorem fulls_first : ∀ ws, (fulls ws = [] → firstOf ws = Str.ofString "") ∧ (∀ w r, fulls ws = w :: r → firstOf ws = w)
  | [] => ⟨fun _ => rfl, fun _ _ z => by cases z⟩
  | v :: l => by
    obtain ⟨i1, i2⟩ := fulls_first l
    have fc : fulls (v :: l) = if v = Str.ofString "" then fulls l else v :: fulls l := by
      unfold fulls
      by_cases h : v = Str.ofString ""
      · rw [List.filter_cons, if_neg (by simp [h]), if_pos h]
      · rw [List.filter_cons, if_pos (by simp [h]), if_neg h]
    have ff : firstOf (v :: l) = if v = Str.ofString "" then firstOf l else v := rfl
    rw [fc, ff]
    by_cases h : v = Str.ofString ""
    · rw [if_pos h, if_pos h]
      exact ⟨i1, i2⟩
    · rw [if_neg h, if_neg h]
      exact ⟨fun z => (nomatch z), fun w r z => (by injection z)⟩
theorem fulls_take {ws : List Str} {i : Nat} {w : Str} (h : ws[i]? = some w) : fulls (ws.take (i + 1)) = fulls (ws.take i) ++ (if w = Str.ofString "" then [] else [w]) := by
  unfold fulls
  rw [List.take_succ, h, List.filter_append]
  congr 1
  by_cases e : w = Str.ofString "" <;> simp [e]
theorem fulls_len {ws : List Str} : (fulls ws).length ≤ ws.length := List.length_filter_le _ _
theorem strs_shaped : ∀ {ws : List Str}, (∀ w ∈ ws, PyData.strOk w = true) → PyData.canLayAll0 (ws.map PyData.str) = true
  | [], _ => rfl
  | w :: r, h => by
    have := strs_shaped (ws := r) (fun v hv => h v (List.mem_cons_of_mem _ hv))
    simp [PyData.canLayAll0, PyData.canLay0, this, h w (List.mem_cons_self ..)]
theorem strs_lay {ws : List Str} (h : ∀ w ∈ ws, PyData.strOk w = true) : SeqAt.shaped (.list (ws.map PyData.str)) = true := by
  unfold SeqAt.shaped
  simp [PyData.canLay0, strs_shaped h, PyData.depth, depth_strs]
theorem strs_nil {ws : List Str} : PyData.eqv (.list (ws.map PyData.str)) (.list []) = decide (ws = []) := by
  cases ws <;> simp [PyData.eqv, PyData.eqvAll]
def spFirst (K : PySem.W.Frag) : Sp := fun vs H Q _ => ∃ (l : Addr) (ws : List Str), vs = [.ref l] ∧ SqL K H l (ws.map V.str) ∧ ws.length ≤ 10 ∧ (∀ w ∈ ws, PyData.strOk w = true) ∧ ∀ H', Same H H' → Q (.str (firstOf ws)) H'
theorem h_law_limit (D : Df K mg "_law_limit" s__law_limit) : Has P w K mg base CX0 "_law_limit" 1 [] spLimit := by
  refine D.has sc__law_limit (fun vs H Q E h => ?_) (fun kV doc pm an cdv ct us hl => match us, hl with | [], _ => rfl) (fun f cdv A outer s H vs Q E gd hr h => ?_)
  · obtain ⟨rfl, _⟩ := h
    rfl
  · obtain ⟨rfl, q⟩ := h
    refine ⟨_, (pss_one
 (ps_ret (pe_op op_powW (pe_op op_pow pe_int pe_int) pe_int))), ?_⟩
    refine ⟨_, _, rfl, rfl, ⟨by decide, by decide, by decide⟩, _, _, rfl, rfl, ⟨by decide, by decide +kernel⟩, ?_⟩
    have e : (((10 : Int) ^ (50 : Int).toNat) ^ (8 : Int).toNat) = B := by rw [B_eq]; decide +kernel
    show Q (.int (((10 : Int) ^ (50 : Int).toNat) ^ (8 : Int).toNat)) H
    rw [e]
    exact q

theorem h_law_is_int (T : Txt K mg aG dU C CV CM cs) (D : Df K mg "_law_is_int" s__law_is_int) (h_law_limit : Has P w K mg base CX0 "_law_limit" 1 [] spLimit) : Has P w K mg base CX0 "_law_is_int" 2 ["_law_value"] (spIsIntL K) := by
  refine D.has sc__law_is_int (fun vs H Q E h => ?_) (fun kV doc pm an cdv ct us hl => match us, hl with | [_], _ => rfl) (fun f cdv A outer s H vs Q E gd hr h => ?_)
  · obtain ⟨x, k, rfl, _⟩ := h
    rfl
  · obtain ⟨x, k, rfl, o, q⟩ := h
    refine ⟨_, (pss_one
 (ps_ret (pe_and (pe_callB call_isi (by exact rfl) T.zisinstance (by decide +kernel) (pa_cons (pv 0) (pa_cons (pe_bltn (v := .ty "int") (by exact rfl) T.zint (by decide +kernel) rfl) pa_nil))) (pe_and (pe_not (pe_callB call_isi (by exact rfl) T.zisinstance (by decide +kernel) (pa_cons (pv 0) (pa_cons (pe_bltn (v := .ty "bool") (by exact rfl) T.zbool (by decide +kernel) rfl) pa_nil)))) (pe_one (pe_cmpR op_lt (pe_callB call_abs (by exact rfl) T.zabs (by decide +kernel) (pa_cons (pv 0) pa_nil)) (pe_call0H h_law_limit gd (hr.mono (by decide)) pass0) (nomark _))))))), ?_⟩
    cases k with
    | int =>
      obtain ⟨i, rfl⟩ := o.intI
      refine ⟨_, rfl, _, _, _, _, _, rfl, .ty _, o, kit_int _, _, rfl, iteT ⟨_, rfl, _, _, _, _, _, rfl, .ty _, o, kit_bool _, _, rfl, _, rfl, iteT ?_⟩⟩
      refine ⟨_, rfl, _, rfl, rfl, _, _, rfl, rfl, ?_⟩
      show Q (V.bl (decide ((if i < 0 then -i else i) < B))) H
      rw [show decide ((if i < 0 then -i else i) < B) = isIntV (.int i) from ?_]
      · exact q
      · show _ = (decide (-B < i) && decide (i < B))
        have hB : (0 : Int) < B := by rw [B_eq]; decide +kernel
        by_cases h : i < 0
        · rw [if_pos h]
          by_cases h2 : -i < B
          · rw [decide_eq_true h2, decide_eq_true (show -B < i by omega), decide_eq_true (show i < B by omega)]; rfl
          · rw [decide_eq_false h2, decide_eq_false (show ¬ -B < i by omega)]; rfl
        · rw [if_neg h, decide_eq_true (show -B < i by omega), Bool.true_and]
    | bl =>
      obtain ⟨b, rfl⟩ := o.blI
      exact ⟨_, rfl, _, _, _, _, _, rfl, .ty _, o, kit_int _, _, rfl, iteT ⟨_, rfl, _, _, _, _, _, rfl, .ty _, o, kit_bool _, _, rfl, _, rfl, iteF q⟩⟩
    | _ =>
      have e : isIntV x = false := by
        cases x with
        | int i => exact absurd o.notInt (by intro z; cases z)
        | _ => rfl
      rw [e] at q
      exact ⟨_, rfl, _, _, _, _, _, rfl, .ty _, o, kit_int _, _, rfl, iteF q⟩
theorem h_law_point_word (T : Txt K mg aG dU C CV CM cs) (D : Df K mg "_law_point_word" s__law_point_word) (h_law_is_int : Has P w K mg base CX0 "_law_is_int" 2 ["_law_value"] (spIsIntL K)) : Has P w K mg base CX0 "_law_point_word" 3 ["_law_value"] (spWord K) := by
  refine D.has sc__law_point_word (fun vs H Q E h => ?_) (fun kV doc pm an cdv ct us hl => match us, hl with | [_], _ => rfl) (fun f cdv A outer s H vs Q E gd hr h => ?_)
  · obtain ⟨x, r, rfl, _⟩ := h
    rfl
  · obtain ⟨x, r, rfl, pt, q⟩ := h
    refine ⟨_, (pss_cons
 (ps_set (i := 1) sc__law_point_word.nd rfl (Or.inl rfl) (pe_and (pe_callB call_isi (by exact rfl) T.zisinstance (by decide +kernel) (pa_cons (pv 0) (pa_cons (pe_bltn (v := .ty "tuple") (by exact rfl) T.ztuple (by decide +kernel) rfl) pa_nil))) (pe_one (pe_cmpR op_eq (pe_callB call_len_seq (by exact rfl) T.zlen PySem.boot_len (pa_cons (pv 0) pa_nil)) pe_int (nomark _)))))
 (pss_one
 (ps_ret (pe_ifExp (PW.pt (pw_and (pt_val (pv 1)) (pw_and (pt_val (pe_callH h_law_is_int gd (hr.mono (by decide)) pass0 (pa_cons (pe_ix ix_tup (pv 0) pe_int (fun _ _ => rfl)) pa_nil))) (pw_and1 (pt_val (pe_callH h_law_is_int gd (hr.mono (by decide)) pass0 (pa_cons (pe_ix ix_tup (pv 0) pe_int (fun _ _ => rfl)) pa_nil))))))) pe_str pe_str)))), ?_⟩
    rcases pt with ⟨k, hk, c0, c1⟩ | ⟨rfl, Ty, hT, kT⟩
    case inr => exact ⟨_, rfl, _, _, _, _, _, rfl, .ty _, hT, kT, _, rfl, iteF ⟨_, rfl, _, rfl, iteF (iteF q)⟩⟩
    refine ⟨_, rfl, _, _, _, _, _, rfl, .ty _, hk, kit_tup _, _, rfl, ?_⟩
    cases e : k.isT with
    | false =>
      rw [c0 e] at q
      exact iteF ⟨_, rfl, _, rfl, iteF (iteF q)⟩
    | true =>
      obtain ⟨a, xs, rfl, hx, lx, n2, y2⟩ := c1 e
      refine iteT ⟨_, rfl, a, xs, rfl, .inr hx, rfl, ?_⟩
      by_cases h2 : xs.length = 2
      · obtain ⟨u, v, ku, kv, rfl, hu, hv, er⟩ := y2 h2
        refine ⟨_, rfl, _, rfl, iteT ⟨_, rfl, a, _, _, u, rfl, rfl, hx, atI_nat (j := 0) rfl, _, _, rfl, hu, _, rfl, ?_⟩⟩
        rw [er] at q
        cases hu1 : isIntV u with
        | true =>
          rw [hu1, Bool.true_and] at q
          refine iteT ⟨_, rfl, a, _, _, v, rfl, rfl, hx, atI_nat (j := 1) rfl, _, _, rfl, hv, _, rfl, ?_⟩
          cases hv1 : isIntV v with
          | true => rw [hv1] at q; exact iteT q
          | false => rw [hv1] at q; exact iteF q
        | false =>
          rw [hu1, Bool.false_and] at q
          exact iteF (iteF q)
      · rw [n2 h2] at q
        have z : decide (V.int (xs.length : Int) = V.int 2) = false := decide_eq_false (fun z => h2 (by injection z with z; omega))
        refine ⟨_, rfl, _, rfl, ?_⟩
        rw [z]
        exact iteF (iteF q)
theorem h_law_first (T : Txt K mg aG dU C CV CM cs) (D : Df K mg "_law_first" s__law_first) : Has P w K mg base CX0 "_law_first" 1 ["_law_words"] (spFirst K) := by
  refine D.has sc__law_first (fun vs H Q E h => ?_) (fun kV doc pm an cdv ct us hl => match us, hl with | [_], _ => rfl) (fun f cdv A outer s H vs Q E gd hr h => ?_)
  · obtain ⟨l, ws, rfl, _⟩ := h
    rfl
  · obtain ⟨l, ws, rfl, hl, len, ok, q⟩ := h
    have hu := hr.units
    refine ⟨_, (pss_cons
 (ps_setLc (i := 1) (own := [("_law_word", 2)]) (g := gName 2) (tt := _) (by rfl) sc__law_first.nd rfl rfl (sw_true rfl rfl rfl (by decide +kernel)) (pi_list (pv 0)) (blkOk_by (own := [("_law_word", 2)]) (N := N__law_first) (sc := defScope s__law_first) (by decide +kernel)) (fun _ _ _ _ _ => pg_name (i := 2) sc__law_first.nd rfl (Or.inl rfl)) (fun _ _ _ _ _ => pts_one (pt_cmpR op_ne (pv 2) pe_str (nomark _))) (fun _ _ _ _ _ => (pv 2)))
 (pss_one
 (ps_ret (pe_ifExp (pt_cmpR (op_neD hu) (pv 1) (pe_lst pa_nil) (nomark _)) (pe_ix ix_list (pv 1) pe_int (fun _ _ => rfl)) pe_str)))), ?_⟩
    refine ⟨_, rfl, l, rfl, ⟨_, hl⟩, fun D hD => lc_list (a := l) (xs := ws.map V.str) (fun i' H' => Same H H' ∧ H' D = some (.lst ((fulls (ws.take i')).map V.str))) ⟨Same.new hD, upd_same⟩ (fun i' H' _ h => sqL_same hl h.1) ?_ ?_⟩
    · rintro i' x H' hx ⟨s', hacc⟩
      obtain ⟨w', hw, rfl⟩ : ∃ w', ws[i']? = some w' ∧ x = .str w' := by
        rw [List.getElem?_map] at hx
        cases e : ws[i']? with
        | none => rw [e] at hx; cases hx
        | some y => rw [e] at hx; cases hx; exact ⟨y, rfl, rfl⟩
      refine ⟨rfl, _, rfl, rfl, _, rfl, ?_⟩
      have ft := fulls_take hw
      by_cases e : w' = Str.ofString ""
      · subst e
        rw [if_pos rfl, List.append_nil] at ft
        exact iteF ⟨s', by rw [ft]; exact hacc⟩
      · rw [if_neg e] at ft
        rw [show (!decide (V.str w' = V.str (Str.ofString ""))) = true by rw [decide_eq_false (fun z => e (by injection z))]; rfl]
        refine iteT ⟨_, rfl, _, hacc, ?_, Same.over s' hD _, ?_⟩
        · rw [List.length_map]
          exact Nat.lt_of_le_of_lt (Nat.le_trans fulls_len (Nat.le_trans (List.length_take_le _ _) (by omega : i' ≤ i'))) (by
            have : i' < ws.length := (List.getElem?_eq_some_iff.mp hw).1
            rw [sizeLine_eq]; omega)
        · rw [upd_same, ft, List.map_append]; rfl
    rintro Hc ⟨sc, hacc⟩
    rw [show ws.take (ws.map V.str).length = ws by rw [List.length_map]; exact List.take_length] at hacc
    obtain ⟨f1, f2⟩ := fulls_first ws
    have okf : ∀ w ∈ fulls ws, PyData.strOk w = true := fun w hw => ok w (List.mem_filter.mp hw).1
    refine ⟨_, rfl, by show 0 ≤ sizeLine; decide, fun N hN => ?_⟩
    have sN := sc.trans (Same.new (o := .lst []) hN)
    refine ⟨.list ((fulls ws).map PyData.str), .list [], .lst (SqL.of (new_keep hacc hN)) dp_strs, .lst (SqL.of upd_same) .nil, strs_lay okf, by decide, _, rfl, ?_⟩
    rw [strs_nil]
    cases e : fulls ws with
    | nil =>
      rw [f1 e] at q
      exact iteF (q _ sN)
    | cons w' r =>
      rw [f2 _ _ e] at q
      rw [e] at hacc
      refine iteT ⟨_, rfl, D, _, _, _, rfl, rfl, SqL.of (new_keep hacc hN), atI_nat (j := 0) rfl, q _ sN⟩
end
end K07
namespace K07
open PySem PySem.Spec PyProof.Rows L2 GL PySem.GLE LamX
/-! ### what data tells -/
def isIntD : PyData → Bool
  | .int i => isIntV (.int i)
  | _ => false
def isPtD : PyData → Bool
  | .tuple [a, b] => isIntD a && isIntD b
  | _ => false
def kdD : PyData → Kd
  | .none => .non | .bool _ => .bl | .int _ => .int | .str _ => .str | .list _ => .lst | .tuple _ => .tup | .dict _ => .dct
section
variable {K : PySem.W.Frag} {H H' : Hp} {x : V} {d : PyData}
theorem dpA_len : ∀ {xs : List V} {ds : List PyData}, DpAll K H xs ds → xs.length = ds.length
  | _, _, .nil => rfl
  | _, _, .cons _ a => by simp [dpA_len a]
theorem dqA_len : ∀ {xs : List V} {ds : List PyData}, DqAll K H xs ds → xs.length = ds.length
  | _, _, .nil => rfl
  | _, _, .cons _ a => by simp [dqA_len a]
theorem sqL_of {a : Addr} {xs : List V} (h : SqL K H a xs) : Of K H (.ref a) .lst := by
  rcases h with (z | ⟨o, z⟩) | ⟨o, its, n, e, c, _⟩
  · exact .base (.lst z)
  · exact .base (.frz z)
  · exact .kList e c
theorem sqT_of {a : Addr} {xs : List V} (h : SqT K H a xs) : Of K H (.ref a) .tup := by
  rcases h with (z | ⟨o, z⟩) | ⟨o, its, n, e, c, _⟩
  · exact .base (.tup z)
  · exact .fTuple z
  · exact .kTuple e c
theorem dp_of (h : Dp K H x d) : Of K H x (kdD d) := by
  cases h with
  | non => exact .non
  | bl b => exact .bl
  | int i => exact .int
  | str y => exact .str
  | lst h a => exact sqL_of h
  | tup h a => exact sqT_of h
theorem dq_of (h : Dq K H x d) : Of K H x (kdD d) := by
  cases h with
  | dp h ok => exact dp_of h
  | one e a b => exact .dct e
  | emp e => exact .dct e
  | lst h a => exact sqL_of h
  | tup h a => exact sqT_of h
theorem dr_of (h : Dr K H x d) : Of K H x (kdD d) := h.elim dp_of dq_of
theorem dp_int (h : Dp K H x d) : isIntV x = isIntD d := by cases h <;> rfl
theorem dr_int (h : Dr K H x d) : isIntV x = isIntD d := by
  rcases h with h | h
  · exact dp_int h
  · cases h with
    | dp h ok => exact dp_int h
    | one e a b => rfl
    | emp e => rfl
    | lst h a => rfl
    | tup h a => rfl
theorem dr_pt (h : Dr K H x d) (l : ∀ ds, d = .tuple ds → ds.length ≤ 1000) : PtG K H x (isPtD d) := by
  have tup : ∀ {a : Addr} {xs : List V} {ds : List PyData}, x = .ref a → d = .tuple ds → SqT K H a xs → (xs.length = ds.length) → (∀ u v du dv, xs = [u, v] → ds = [du, dv] → Dr K H u du ∧ Dr K H v dv) → PtG K H x (isPtD d) := by
    intro a xs ds ex ed hx le each
    subst ex ed
    refine .inl ⟨.tup, sqT_of hx, (fun z => nomatch z), fun _ => ⟨a, xs, rfl, hx, by rw [le]; exact l ds rfl, fun n2 => ?_, fun h2 => ?_⟩⟩
    · match ds, le with
      | [], _ => rfl
      | [_], _ => rfl
      | [_, _], le => exact absurd le n2
      | _ :: _ :: _ :: _, _ => rfl
    · match xs, ds, h2, le, each with
      | [u, v], [du, dv], _, _, each =>
        obtain ⟨hu, hv⟩ := each u v du dv rfl rfl
        refine ⟨u, v, _, _, rfl, dr_of hu, dr_of hv, ?_⟩
        rw [dr_int hu, dr_int hv]
        rfl
  have no : kdD d ≠ .tup → isPtD d = false → PtG K H x (isPtD d) := fun n e => by rw [e]; exact .inl (ptNo (dr_of h) (by cases z : kdD d <;> first | rfl | exact absurd z n))
  rcases h with h | h
  · cases h with
    | tup hx a =>
      refine tup rfl rfl hx ?_ ?_
      · exact dpA_len a
      · rintro u v du dv rfl rfl
        cases a with
        | cons a1 a2 => cases a2 with
          | cons a3 a4 => exact ⟨.inl a1, .inl a3⟩
    | _ => exact no (by intro z; cases z) rfl
  · cases h with
    | dp h ok =>
      cases h with
      | tup hx a =>
        refine tup rfl rfl hx ?_ ?_
        · exact dpA_len a
        · rintro u v du dv rfl rfl
          cases a with
          | cons a1 a2 => cases a2 with
            | cons a3 a4 => exact ⟨.inl a1, .inl a3⟩
      | _ => exact no (by intro z; cases z) rfl
    | tup hx a =>
      refine tup rfl rfl hx ?_ ?_
      · exact dqA_len a
      · rintro u v du dv rfl rfl
        cases a with
        | cons a1 a2 => cases a2 with
          | cons a3 a4 => exact ⟨.inr a1, .inr a3⟩
    | _ => exact no (by intro z; cases z) rfl
theorem dr_same (h : Dr K H x d) (s : Same H H') : Dr K H' x d := h.imp (dp_same s) (dq_same s)
end
/-! ### values of the law's lists -/
structure OkD (d : PyData) : Prop where
  lay : d.canLay0 = true
  dep : d.depth ≤ 3
  tl : ∀ ds, d = .tuple ds → ds.length ≤ 1000
/-- x is data, or a grid -/
def OV (K : PySem.W.Frag) (C : Addr) (U : Bool → Addr) (H : Hp) (x : V) (o : Option PyData) : Prop := (∃ d, o = some d ∧ Dr K H x d ∧ OkD d) ∨ (o = none ∧ ∃ g t, x = .ref g ∧ GridAt C U H g t) ∨ (o = some (.dict []) ∧ ∃ a, x = .ref a ∧ H a = some (.dK []))
def isPtO : Option PyData → Bool
  | some d => isPtD d
  | none => false
def ptO (o : Option PyData) : Option (Int × Int) := if isPtO o = true then (match o with
  | some (.tuple [.int a, .int b]) => some (a, b)
  | _ => none) else none
def is0 : Option PyData → Bool
  | some d => PyData.eqv d (.tuple [.int 0, .int 0])
  | none => false
theorem ptO_is {o : Option PyData} (h : isPtO o = true) : ∃ a b, o = some (.tuple [.int a, .int b]) ∧ ptO o = some (a, b) ∧ ptOk (a, b) := by
  match o, h with
  | some (.tuple [a, b]), h =>
    have h2 : (isIntD a && isIntD b) = true := h
    rw [Bool.and_eq_true] at h2
    match a, b, h2, h with
    | .int a, .int b, h2, h => exact ⟨a, b, rfl, if_pos h, h2.1, h2.2⟩
theorem ptO_no {o : Option PyData} (h : isPtO o = false) : ptO o = none := if_neg (by rw [h]; decide)
section
variable {K : PySem.W.Frag} {C : Addr} {U : Bool → Addr} {H H' : Hp} {x : V} {o : Option PyData}
theorem OV.same (h : OV K C U H x o) (s : Same H H') : OV K C U H' x o := h.imp (fun ⟨d, e, r, k⟩ => ⟨d, e, dr_same r s, k⟩) (Or.imp (fun ⟨e, g, t, e2, a⟩ => ⟨e, g, t, e2, a.same s⟩) (fun ⟨e, a, e2, e3⟩ => ⟨e, a, e2, s _ _ e3⟩))
theorem all_same {xs : List V} (h : ∀ x ∈ xs, ∃ o, OV K C U H x o) (s : Same H H') : ∀ x ∈ xs, ∃ o, OV K C U H' x o := fun x hx => let ⟨o, z⟩ := h x hx; ⟨o, z.same s⟩
theorem OV.pt (i : GIs K C) (c : Cls K C) (kT : PySem.W.kitOne K (.ref C) (.type "tuple") = some false) (h : OV K C U H x o) : PtG K H x (isPtO o) := by
  rcases h with ⟨d, rfl, r, k⟩ | ⟨rfl, g, t, rfl, dx, e⟩ | ⟨rfl, a, rfl, e⟩
  · exact dr_pt r k.tl
  · exact .inr ⟨rfl, _, i.ty c e, kT⟩
  · exact dr_pt (.inr (.emp e)) (fun ds z => by cases z)
theorem OV.at (h : OV K C U H x o) {a b : Int} (e : o = some (.tuple [.int a, .int b])) : ∃ p, x = .ref p ∧ PAt K H p (a, b) := by
  rcases h with ⟨d, ed, r, k⟩ | ⟨z, _⟩ | ⟨z, _⟩
  · rw [e] at ed
    cases ed
    have two : ∀ {q : Addr} {xs : List V}, SqT K H q xs → DpAll K H xs [.int a, .int b] → PAt K H q (a, b) := fun hx l => by
      cases l with
      | cons l1 l2 => cases l1; cases l2 with
        | cons l3 l4 => cases l3; cases l4; exact hx
    rcases r with r | r
    · cases r with
      | tup hx l => exact ⟨_, rfl, two hx l⟩
    · cases r with
      | dp r ok => cases r with
        | tup hx l => exact ⟨_, rfl, two hx l⟩
      | tup hx l =>
        refine ⟨_, rfl, ?_⟩
        cases l with
        | cons l1 l2 => cases l1 with
          | dp l1 _ => cases l1; cases l2 with
            | cons l3 l4 => cases l3 with
              | dp l3 _ => cases l3; cases l4; exact hx
  · rw [z] at e; cases e
  · rw [z] at e; cases e
theorem OV.ptx (i : GIs K C) (c : Cls K C) (kT : PySem.W.kitOne K (.ref C) (.type "tuple") = some false) (h : OV K C U H x o) : PtX K H x (ptO o) := by
  cases e : isPtO o with
  | false =>
    rw [ptO_no e]
    have z := h.pt i c kT
    rw [e] at z
    exact z
  | true =>
    obtain ⟨a, b, e1, e2, ok⟩ := ptO_is e
    rw [e2]
    obtain ⟨p, rfl, hp⟩ := h.at e1
    exact ⟨p, rfl, hp, ok⟩
theorem is0_pt {a b : Int} (e : o = some (.tuple [.int a, .int b])) : is0 o = decide ((a, b) = ((0, 0) : Int × Int)) := by
  subst e
  show PyData.eqv (.tuple [.int a, .int b]) (.tuple [.int 0, .int 0]) = _
  simp [PyData.eqv, PyData.eqvAll, Prod.ext_iff]
  rfl
end
def rEq0 (K : PySem.W.Frag) (C : Addr) (U : Bool → Addr) : R2 := fun x y H Q => ∃ o p, OV K C U H x o ∧ y = .ref p ∧ PAt K H p (0, 0) ∧ Q (.bl (is0 o)) H
theorem op_eq0 {X : Cx} {C : Addr} {U : Bool → Addr} (i : GIs X.K C) (c : Cls X.K C) (hu : X.A.units + 64 < cLine) (hm_eq : HasM X.prog X.w X.K X.mg X.base CX0 C "__eq__" 1 ["self", "other"] (spGEq X.K C U)) (g : Gd X.A) (hr : Room 1 X.A) : OpR X (compareOp .Eq) (rEq0 X.K C U) := by
  intro pins s σ H x y v u Q I rx ry h
  obtain ⟨o, p, ov, rfl, hp, q⟩ := h
  rcases ov with ⟨d, rfl, r, k⟩ | ⟨rfl, gg, t, rfl, dx, e⟩ | ⟨rfl, a, rfl, e⟩
  · obtain ⟨as, r1⟩ : ∃ as, Reads s.heap v d as := r.elim (fun h => Dp.reads I d x v h rx) (fun h => Dq.reads I h rx)
    obtain ⟨bs, r2⟩ := Dp.reads I (.tuple [.int 0, .int 0]) _ u hp.dp ry
    exact SeqAt.compareEq_shaped r1 r2 (by unfold SeqAt.shaped; rw [k.lay, decide_eq_true (Nat.le_trans k.dep (by decide))]; rfl) (by decide +kernel) hu ⟨.bl _, H, I, rfl, q⟩
  · exact op_eqA (E := E0) hm_eq g hr pass0 pins s σ H _ _ v u Q I rx ry ⟨gg, dx, _, .type "tuple", rfl, e, sqT_of hp, nf_kd .tup, gg, t, _, false, rfl, ⟨dx, e⟩, .inr ⟨.tup, sqT_of hp, rfl⟩, false, rfl, q⟩
  · exact op_eqEmp (by omega) pins s σ H _ _ v u Q I rx ry ⟨a, p, _, rfl, rfl, e, hp, q⟩
/-! ### what stays, with a new object -/
section
variable {T : List (Addr × Str)} {p l : Addr} {M H : Hp} {o : HO}
theorem st_none (s : St T p M H) (n : H l = none) : M l = none := by
  cases e : M l with
  | none => exact rfl
  | some u => rw [s.same _ _ e] at n; cases n
theorem st_new (s : St T p M H) (n : H l = none) (nt : ∀ ps, o ≠ .tbl ps) : St T p (upd M l o) (upd H l o) := by
  refine ⟨fun b u e => ?_, ?_, fun b ps z => ?_, ?_, s.tabs.ext (Same.new n)⟩
  · by_cases h : b = l
    · subst h
      rw [upd_same] at e ⊢
      exact e
    · rw [upd_ne h] at e ⊢
      exact s.same b u e
  · rw [upd_ne (Ne.symm (die_new s.die n))]
    exact s.mp
  · by_cases h : b = l
    · subst h
      rw [upd_same] at z
      exact nt ps (Option.some.inj z)
    · rw [upd_ne h] at z
      exact s.nt b ps z
  · obtain ⟨a, b, c, h0, e0⟩ := s.die
    refine ⟨a, b, c, h0, ?_⟩
    rw [upd_ne (Ne.symm (die_new s.die n))]
    exact e0
end
/-! ### a met call, by the word that it tells -/
theorem met_of {K : PySem.W.Frag} {cs : Cs} {cT : List (Addr × Str)} {t : XK → TE} {σ : L2.St} {H : Hp} {Q : VK} {w : Str} (tabs : Tabs cT H)
    (run : ∀ H1, ExtN H H1 → Tabs cT H1 → ∀ (E : XK) (Q1 : VK), (w = Str.ofString "" → ∀ v H', ExtN H1 H' → Tabs cT H' → Q1 v H') → (∀ cls d H', ExtN H1 H' → Tabs cT H' → MetW K cs H' cls d w → E cls d H') → t E σ H1 Q1)
    (next : ∀ H', ExtN H H' → Tabs cT H' → Q (.str w) H') : tLam cT (TMet K cs) t σ H Q :=
  ⟨tabs, fun H1 ex tb => run H1 ex tb _ _ (fun e v H' e1 t1 => by have z := next H' (ex.trans e1) t1; rw [e] at z; exact z) (fun cls d H' e1 t1 m => ⟨w, m, next H' (ex.trans e1) t1⟩)⟩
theorem tIf_str {t : TT} {ta tb : TE} {σ : L2.St} {H : Hp} {Q : VK} {w : Str} (run : ∀ Q1 : VK, Q1 (.str w) H → tIf t ta tb σ H Q1) (next : Q (.str w) H) : tIf t ta tb σ H Q := run Q next
theorem ext_same {H H' : Hp} (s : Same H H') : ExtN H H' := ExtN.of s
theorem ext_new {H : Hp} {d : Addr} {o : HO} (n : H d = none) : ExtN H (upd H d o) := ext_same (Same.new n)
/-! ### numbers and what is shown of them -/
def numW (x : V) (d : PyData) : Str := if isIntV x = true then Str.ofString "" else Str.ofString "number " ++ d.shown
/-- data that can be shown -/
def NV (K : PySem.W.Frag) (H : Hp) (x : V) (d : PyData) : Prop := Dr K H x d ∧ Sh K H x d ∧ PyData.strOk d.shown = true
section
variable {K : PySem.W.Frag} {H H' : Hp} {x : V} {d : PyData}
theorem NV.same (h : NV K H x d) (s : Same H H') : NV K H' x d := ⟨dr_same h.1 s, h.2.1.same s, h.2.2⟩
theorem allN_same {xs : List V} (h : ∀ x ∈ xs, ∃ d, NV K H x d) (s : Same H H') : ∀ x ∈ xs, ∃ d, NV K H' x d := fun x hx => let ⟨d, z⟩ := h x hx; ⟨d, z.same s⟩
theorem nv_int {n : Int} (h : n.natAbs < 10 ^ 450) : NV K H (.int n) (.int n) := by
  have z : n.natAbs.log2 < 1920 := Nat.lt_trans (PySem.Flt.log2_lt_of (k := 1500) (by decide) (Nat.lt_of_lt_of_le h (by decide +kernel))) (by decide)
  refine ⟨.inl (.int n), ⟨.inl ⟨.int n, decide_eq_true z, rfl⟩, by simp [PyData.depth], ?_⟩, ofS_ok _⟩
  have e := int_text_length_le10 (a := n) (k := 450) (by decide) h
  show (Str.ofString (toString n)).length ≤ 31000
  rw [PySem.ofString_length]
  exact Nat.le_trans e (by decide)
theorem nv_flat (h : Dp K H x d) (a : d.showable = true) (b : d.hasDict = false) (c : d.depth ≤ 3) (l : d.shown.length ≤ 31000) (so : PyData.strOk d.shown = true) : NV K H x d := ⟨.inl h, ⟨.inl ⟨h, a, b⟩, c, l⟩, so⟩
theorem nv_emp {a : Addr} (e : H a = some (.dK [])) : NV K H (.ref a) (.dict []) := ⟨.inr (.emp e), ⟨.inr ⟨a, rfl, .emp e⟩, by simp [PyData.depth, PyData.depthKv], by decide +kernel⟩, by decide +kernel⟩
theorem numW_ok {x : V} {d : PyData} (h : NV K H x d) : PyData.strOk (numW x d) = true := by
  unfold numW
  split
  · decide +kernel
  · exact app_ok (by decide +kernel) h.2.2
end
theorem B_lt : (B : Int).natAbs < 10 ^ 450 := by rw [B_eq]; decide +kernel
theorem B_lt1 : (B - 1 : Int).natAbs < 10 ^ 450 := by rw [B_eq]; decide +kernel
theorem wordOf_ok (r : Bool) : PyData.strOk (wordOf r) = true := by cases r <;> decide +kernel
theorem strs_refl : ∀ (ws : List Str), PyData.eqv (.list (ws.map PyData.str)) (.list (ws.map PyData.str)) = true := by
  intro ws
  have h : ∀ ws : List Str, PyData.eqvAll (ws.map PyData.str) (ws.map PyData.str) = true := by
    intro ws
    induction ws with
    | nil => rfl
    | cons w r ih => simp [PyData.eqvAll, PyData.eqv, ih]
  simp [PyData.eqv, h]
theorem first1 (w : Str) : firstOf [w] = w := by
  show (if w = Str.ofString "" then firstOf [] else w) = w
  by_cases h : w = Str.ofString ""
  · rw [if_pos h, h]; rfl
  · rw [if_neg h]
theorem first_empty (ws : List Str) : firstOf (Str.ofString "" :: ws) = firstOf ws := if_pos rfl
theorem first_point (ws : List Str) : firstOf (Str.ofString "point" :: ws) = Str.ofString "point" := if_neg (by decide +kernel)
theorem word_t : wordOf true = Str.ofString "" := rfl
theorem word_f : wordOf false = Str.ofString "point" := rfl
theorem numW_t {x : V} {d : PyData} (h : isIntV x = true) : numW x d = Str.ofString "" := if_pos h
theorem numW_f {x : V} {d : PyData} (h : isIntV x = false) : numW x d = Str.ofString "number " ++ d.shown := if_neg (by rw [h]; decide)
def qW (o1 o2 : Option PyData) : List Str := [wordOf (isPtO o1), wordOf (isPtO o2)] ++ (if is0 o2 = true then [Str.ofString "quotient (0, 0)"] else [])
theorem qW_bad {o1 o2 : Option PyData} (h : isPtO o1 = false ∨ ptO o2 = none) : firstOf (qW o1 o2) = Str.ofString "point" := by
  unfold qW
  cases e1 : isPtO o1 with
  | false => exact first_point _
  | true =>
    rcases h with h | h
    · rw [e1] at h; cases h
    · have e2 : isPtO o2 = false := by
        cases e : isPtO o2 with
        | false => rfl
        | true => obtain ⟨a, b, _, e3, _⟩ := ptO_is e; rw [h] at e3; cases e3
      rw [e2]
      exact (first_empty _).trans (first_point _)
theorem qW_ok {o1 o2 : Option PyData} {v : Int × Int} (h1 : isPtO o1 = true) (h2 : ptO o2 = some v) (h3 : v ≠ (0, 0)) : firstOf (qW o1 o2) = Str.ofString "" := by
  unfold qW
  have e2 : isPtO o2 = true := by
    cases e : isPtO o2 with
    | true => rfl
    | false => rw [ptO_no e] at h2; cases h2
  obtain ⟨a, b, eo, e3, _⟩ := ptO_is e2
  rw [h2] at e3
  cases e3
  rw [h1, e2, is0_pt eo, decide_eq_false h3]
  rfl
theorem qW_quo {o1 o2 : Option PyData} (h1 : isPtO o1 = true) (h2 : ptO o2 = some (0, 0)) : firstOf (qW o1 o2) = Str.ofString "quotient (0, 0)" := by
  unfold qW
  have e2 : isPtO o2 = true := by
    cases e : isPtO o2 with
    | true => rfl
    | false => rw [ptO_no e] at h2; cases h2
  obtain ⟨a, b, eo, e3, _⟩ := ptO_is e2
  rw [h2] at e3
  cases e3
  rw [h1, e2, is0_pt eo, decide_eq_true rfl]
  exact (first_empty _).trans ((first_empty _).trans (first1 _))
theorem quo_shown : Str.ofString "quotient " ++ (ptD (0, 0)).shown = Str.ofString "quotient (0, 0)" := by decide +kernel
theorem pt_sh {K : PySem.W.Frag} {H : Hp} {a : Addr} {u : Int × Int} (h : PAt K H a u) (s1 : u.1.natAbs < 10 ^ 40) (s2 : u.2.natAbs < 10 ^ 40) : Sh K H (.ref a) (ptD u) := by
  have z : ∀ n : Int, n.natAbs < 10 ^ 40 → n.natAbs.log2 < 1920 := fun n h => Nat.lt_trans (PySem.Flt.log2_lt_of (k := 200) (by decide) (Nat.lt_of_lt_of_le h (by decide +kernel))) (by decide)
  have l : ∀ n : Int, n.natAbs < 10 ^ 40 → (Str.ofString (toString n)).length ≤ 300 := fun n h => by
    have e := int_text_length_le10 (a := n) (k := 40) (by decide) h
    rw [PySem.ofString_length]
    exact Nat.le_trans e (by decide)
  refine ⟨.inl ⟨h.dp, ?_, rfl⟩, by simp [ptD, PyData.depth, PyData.depthAll], ?_⟩
  · show ((decide (u.1.natAbs.log2 < 1920)) && ((decide (u.2.natAbs.log2 < 1920)) && true)) = true
    rw [decide_eq_true (z _ s1), decide_eq_true (z _ s2)]
    rfl
  · have z := PyData.shown_le_bulk 300 (by decide) (ptD u) (by
      show ((decide ((Str.ofString (toString u.1)).length ≤ 300)) && ((decide ((Str.ofString (toString u.2)).length ≤ 300)) && true)) = true
      rw [decide_eq_true (l _ s1), decide_eq_true (l _ s2)]
      rfl)
    have b : (ptD u).bulk ≤ 100 := by simp [ptD, PyData.bulk, PyData.bulkAll]
    omega
end K07
namespace K07
open PySem PySem.Spec PyProof.Rows L2 GL PySem.GLE LamX
/-- what stands while calls are told of: all that stays, and the list of what was told -/
structure Gt (cT : List (Addr × Str)) (p : Addr) (M : Hp) (o : Option (Addr × List V)) (H : Hp) : Prop where
  st : GL.St cT p M H
  told : ∀ l xs, o = some (l, xs) → H l = some (.lst xs) ∧ l ≠ p
section
variable {cT : List (Addr × Str)} {p : Addr} {M H H' : Hp} {o : Option (Addr × List V)}
theorem Gt.ext (g : Gt cT p M o H) (s : Same H H') : Gt cT p M o H' := ⟨g.st.ext s, fun l xs e => ⟨s _ _ (g.told l xs e).1, (g.told l xs e).2⟩⟩
theorem Gt.met (g : Gt cT p M o H) (e : ExtN H H') (t : Tabs cT H') : Gt cT p M o H' := ⟨g.st.met e t, fun l xs z => ⟨e _ _ (g.told l xs z).1 (fun _ z => by cases z), (g.told l xs z).2⟩⟩
theorem Gt.got (g : Gt cT p M o H) (e : Got p H H') : Gt cT p M o H' := ⟨g.st.got e, fun l xs z => ⟨e.keep _ _ (g.told l xs z).1 (g.told l xs z).2, (g.told l xs z).2⟩⟩
theorem Gt.none (s : GL.St cT p M H) : Gt cT p M .none H := ⟨s, fun _ _ z => by cases z⟩
theorem Gt.some {l : Addr} {xs : List V} (s : GL.St cT p M H) (e : H l = some (.lst xs)) (n : l ≠ p) : Gt cT p M (.some (l, xs)) H := ⟨s, fun _ _ z => by cases z; exact ⟨e, n⟩⟩
theorem Gt.same (g : Gt cT p M o H) : Same M H := g.st.same
end
theorem met_g {K : PySem.W.Frag} {cs : Cs} {cT : List (Addr × Str)} {t : XK → TE} {σ : L2.St} {H : Hp} {Q : VK} {w : Str} {G : Hp → Prop} (tabs : Tabs cT H) (st : ∀ H1, ExtN H H1 → Tabs cT H1 → G H1)
    (run : ∀ H1, G H1 → ∀ (E : XK) (Q1 : VK), (w = Str.ofString "" → ∀ v H', G H' → Q1 v H') → (∀ cls d H', G H' → MetW K cs H' cls d w → E cls d H') → t E σ H1 Q1)
    (next : ∀ H', G H' → Q (.str w) H') : tLam cT (TMet K cs) t σ H Q :=
  ⟨tabs, fun H1 ex tb => run H1 (st H1 ex tb) _ _ (fun e v H' g => by have z := next H' g; rw [e] at z; exact z) (fun cls d H' g m => ⟨w, m, next H' g⟩)⟩
theorem new_keep2 {H : Hp} {a b : Addr} {u v : HO} (h : H b = none) (e : H a = some u) : upd H b v a = some u := Same.new h _ _ e
/-! ### values of the law's lists -/
section
variable {K : PySem.W.Frag} {C CV CM : Addr} {U : Bool → Addr} {H H' : Hp} {x : V} {t : Bool}
/-- no point -/
def OVE (K : PySem.W.Frag) (C : Addr) (U : Bool → Addr) (H : Hp) (x : V) : Prop := ∃ o, OV K C U H x o ∧ isPtO o = false
theorem OVE.same (h : OVE K C U H x) (s : Same H H') : OVE K C U H' x := let ⟨o, a, b⟩ := h; ⟨o, a.same s, b⟩
theorem OVE.pt (i : GIs K C) (c : Cls K C) (kT : PySem.W.kitOne K (.ref C) (.type "tuple") = some false) (h : OVE K C U H x) : PtG K H x false := by
  obtain ⟨o, a, b⟩ := h
  have z := a.pt i c kT
  rw [b] at z
  exact z
theorem allE_same {xs : List V} (h : ∀ x ∈ xs, OVE K C U H x) (s : Same H H') : ∀ x ∈ xs, OVE K C U H' x := fun x hx => (h x hx).same s
theorem NoName.same (h : NoName K C U H x) (s : Same H H') : NoName K C U H' x := by
  rcases h with ⟨d, a, b, c, e⟩ | ⟨g, t, e, h⟩ | ⟨a, e, h⟩
  · exact .inl ⟨d, dr_same a s, b, c, e⟩
  · exact .inr (.inl ⟨g, t, e, h.same s⟩)
  · exact .inr (.inr ⟨a, e, s _ _ h⟩)
theorem allNN_same {xs : List V} (h : ∀ x ∈ xs, NoName K C U H x) (s : Same H H') : ∀ x ∈ xs, NoName K C U H' x := fun x hx => (h x hx).same s
theorem tyX_same {t : Value} (h : TyX K H x t) (s : Same H H') : TyX K H' x t := by
  cases h with
  | base b =>
    cases b with
    | non => exact .base .non
    | bl x => exact .base (.bl x)
    | int i => exact .base (.int i)
    | str y => exact .base (.str y)
    | flt y => exact .base (.flt y)
    | lst e => exact .base (.lst (s _ _ e))
    | frz e => exact .base (.frz (s _ _ e))
    | tup e => exact .base (.tup (s _ _ e))
    | dK e => exact .base (.dK (s _ _ e))
    | dT e => exact .base (.dT (s _ _ e))
    | ins e a b c d e2 => exact .base (.ins (s _ _ e) a b c d e2)
  | byt b => exact .byt b
  | set e => exact .set (s _ _ e)
  | kList e c => exact .kList e c
  | kTuple e c => exact .kTuple e c
  | kDict e c => exact .kDict e c
  | fTuple e => exact .fTuple (s _ _ e)
  | fDict e => exact .fDict (s _ _ e)
/-- an instance of a class that is no grid, or a value of a kind: no grid -/
def NoGrid (K : PySem.W.Frag) (C : Addr) (H : Hp) (x : V) : Prop := ∃ T, TyX K H x T ∧ PySem.W.kitOne K T (.ref C) = some false
theorem NoGrid.same (h : NoGrid K C H x) (s : Same H H') : NoGrid K C H' x := let ⟨T, a, b⟩ := h; ⟨T, tyX_same a s, b⟩
theorem noGrid_kind (i : GIs K C) {kd : Kd} (h : Of K H x kd) : NoGrid K C H x := ⟨_, h, i.kit kd⟩
theorem noGrid_vec (vi : VIs K C CV CM) (vc : ∀ D, IsV CV CM D → VCls K D) (kVG : PySem.W.kitOne K (.ref CV) (.ref C) = some false) {v : Addr} {u : Int × Int} (h : VecAt K C U CV H v t u) : NoGrid K C H (.ref v) := ⟨_, h.ty vi.v (vc _ (.inl rfl)).cls, kVG⟩
/-- what stands right of a vector of the grid t: no partner -/
def RV (K : PySem.W.Frag) (C : Addr) (U : Bool → Addr) (CV CM : Addr) (t : Bool) (H : Hp) (y : V) : Prop := (∃ kd, Of K H y kd) ∨ (∃ w t' z, y = .ref w ∧ VecAt K C U CV H w t' z ∧ t ≠ t') ∨ ∃ g t', y = .ref g ∧ GridAt C U H g t'
theorem RV.same (h : RV K C U CV CM t H x) (s : Same H H') : RV K C U CV CM t H' x := by
  rcases h with ⟨kd, o⟩ | ⟨w, t', z, rfl, h, n⟩ | ⟨g, t', rfl, h⟩
  · exact .inl ⟨kd, o.same s⟩
  · exact .inr (.inl ⟨w, t', z, rfl, h.same s, n⟩)
  · exact .inr (.inr ⟨g, t', rfl, h.same s⟩)
theorem allR_same {xs : List V} (h : ∀ x ∈ xs, RV K C U CV CM t H x) (s : Same H H') : ∀ x ∈ xs, RV K C U CV CM t H' x := fun x hx => (h x hx).same s
theorem RV.part (vi : VIs K C CV CM) (i : GIs K C) (c : Cls K C) (nGV : C ≠ CV) (h : RV K C U CV CM t H x) : NoPart K C U CV CM H t x := by
  rcases h with ⟨kd, o⟩ | ⟨w, t', z, rfl, h, n⟩ | ⟨g, t', rfl, dx, e⟩
  · exact .inl ⟨_, o, vi.v.kit kd⟩
  · exact .inr ⟨w, CV, t', z, rfl, .inl rfl, h, n⟩
  · exact .inl ⟨_, i.ty c e, vi.kitG nGV⟩
theorem RV.opd (h : RV K C U CV CM t H x) : ROpd K (IsV CV CM) C H x := by
  rcases h with ⟨kd, o⟩ | ⟨w, t', z, rfl, ⟨dx, g, a, e, _⟩, n⟩ | ⟨g, t', rfl, dx, e⟩
  · exact .inl ⟨kd, o⟩
  · exact .inr (.inl ⟨w, CV, dx, _, rfl, .inl rfl, e⟩)
  · exact .inr (.inr ⟨g, dx, _, rfl, e⟩)
end
theorem ok13 : ptOk (1, 3) := ⟨short_of (by decide), short_of (by decide)⟩
theorem ok00 : ptOk (0, 0) := ⟨short_of (by decide), short_of (by decide)⟩
theorem ok34 : ptOk (3, 4) := ⟨short_of (by decide), short_of (by decide)⟩
theorem ok12 : ptOk (1, 2) := ⟨short_of (by decide), short_of (by decide)⟩
theorem ok75 : ptOk (7, 5) := ⟨short_of (by decide), short_of (by decide)⟩
theorem ok10 : ptOk (1, 0) := ⟨short_of (by decide), short_of (by decide)⟩
theorem okB1 : ptOk (0, B - 1) := by
  refine ⟨short_of (by decide), ?_⟩
  show (decide (-B < B - 1) && decide (B - 1 < B)) = true
  have hB : (1 : Int) < B := by rw [B_eq]; decide +kernel
  rw [decide_eq_true (show -B < B - 1 by omega), decide_eq_true (show B - 1 < B by omega)]
  rfl
theorem isPt_B : isPtO (some (.tuple [.int 0, .int B])) = false := by
  show (isIntD (.int 0) && isIntV (.int B)) = false
  rw [show isIntV (.int B) = (decide (-B < B) && decide (B < B)) from rfl, decide_eq_false (Int.lt_irrefl B), Bool.and_false, Bool.and_false]
theorem list_ok {ws : List Str} (h : ws.all PyData.strOk = true) : ∀ w ∈ ws, PyData.strOk w = true := fun w hw => List.all_eq_true.mp h w hw
theorem pg_of {K : PySem.W.Frag} {H : Hp} {a : Addr} {v : Int × Int} (p : PAt K H a v) (k : ptOk v) : PtG K H (.ref a) true := .inl (pt_of p k)
theorem op_binO' {X : Cx} {CX : CXT} {k : Nat} {IsV : Addr → Prop} {sp : Sp} {E : XK} {m : Str} {CG : Addr} {op : Operator} {K0 : PySem.W.Frag} (hK : X.K = K0) (hn : PySem.dunder op.info.2 = m) (hmem : op.info.2 ∈ ["add", "sub", "mul", "floordiv"]) (h : ∀ C, IsV C → HasM X.prog X.w K0 X.mg X.base CX C m k ["self", "other"] sp) (bk : ∀ C D, IsV C → IsV D → BinK K0 C D op)
    (bc : ∀ C, IsV C → BinC K0 C op.info.2) (bg : BareC K0 CG op.info.2) (ng : ∀ C, IsV C → C ≠ CG) (g : Gd X.A) (hr : Room k X.A) (hx : Passes CX X E) : OpR X (binaryOp op) (rBinO K0 IsV CG sp E) := by
  subst hK
  exact op_binO hn hmem h bk bc bg ng g hr hx
/-! ### powers of (3, 4) -/
theorem self_nonneg (x : Int) : 0 ≤ x * x := by rw [sq_nat x]; exact Int.natCast_nonneg _
theorem nrm_ge (t : Bool) (a b : Int) : 3 * (a * a) ≤ 4 * nrm t (a, b) ∧ 3 * (b * b) ≤ 4 * nrm t (a, b) := by
  cases t with
  | false =>
    have e : nrm false (a, b) = a * a + b * b := by simp [nrm, sl] <;> grind
    have h1 := self_nonneg a
    have h2 := self_nonneg b
    rw [e]
    omega
  | true =>
    have e1 : 4 * nrm true (a, b) = 3 * (a * a) + (a + 2 * b) * (a + 2 * b) := by simp [nrm, sl] <;> grind
    have e2 : 4 * nrm true (a, b) = 3 * (b * b) + (2 * a + b) * (2 * a + b) := by simp [nrm, sl] <;> grind
    have h1 := self_nonneg (a + 2 * b)
    have h2 := self_nonneg (2 * a + b)
    omega
theorem nrm34 (t : Bool) : 0 ≤ nrm t (3, 4) ∧ nrm t (3, 4) ≤ 37 := by cases t <;> decide
theorem pw_nrm (t : Bool) : ∀ i : Nat, 0 ≤ nrm t (pw t (3, 4) i) ∧ nrm t (pw t (3, 4) i) ≤ ((37 ^ i : Nat) : Int)
  | 0 => by cases t <;> decide
  | i + 1 => by
    obtain ⟨h1, h2⟩ := pw_nrm t i
    obtain ⟨h3, h4⟩ := nrm34 t
    rw [show pw t (3, 4) (i + 1) = mul t (pw t (3, 4) i) (3, 4) from rfl, nrm_mul, Nat.pow_succ, Int.natCast_mul]
    exact ⟨Int.mul_nonneg h1 h3, Int.mul_le_mul h2 h4 h3 (Int.natCast_nonneg _)⟩
theorem sq_small {a : Int} {n : Nat} (h : 3 * (a * a) ≤ 4 * ((37 ^ n : Nat) : Int)) (hn : n ≤ 1000) : a.natAbs < 2 ^ 3000 := by
  rw [sq_nat] at h
  have p : 37 ^ n ≤ 37 ^ 1000 := Nat.pow_le_pow_right (by decide) hn
  have q : 4 * 37 ^ 1000 < 3 * (2 ^ 3000 * 2 ^ 3000) := by decide +kernel
  refine Nat.lt_of_not_le (fun z => ?_)
  have m := Nat.mul_le_mul z z
  generalize (2 ^ 3000 : Nat) = X at *
  generalize (37 ^ 1000 : Nat) = Y at *
  generalize (37 ^ n : Nat) = W at *
  omega
theorem pw_sm (t : Bool) {i : Nat} (h : i ≤ 1000) : Sm (pw t (3, 4) i) := by
  obtain ⟨h1, h2⟩ := pw_nrm t i
  obtain ⟨h3, h4⟩ := nrm_ge t (pw t (3, 4) i).1 (pw t (3, 4) i).2
  rw [show ((pw t (3, 4) i).1, (pw t (3, 4) i).2) = pw t (3, 4) i from rfl] at h3 h4
  exact ⟨sq_small (by omega) h, sq_small (by omega) h⟩
/-! ### numbers that are let -/
def letV : V → Bool
  | .int i => decide (0 ≤ i) && decide (i ≤ 1000)
  | _ => false
theorem let_is {x : V} (h : letV x = true) : ∃ m : Nat, x = .int m ∧ m ≤ 1000 := by
  cases x with
  | int i =>
    have z : (decide (0 ≤ i) && decide (i ≤ 1000)) = true := h
    rw [Bool.and_eq_true, decide_eq_true_eq, decide_eq_true_eq] at z
    exact ⟨i.toNat, by congr 1; omega, by omega⟩
  | _ => cases (show false = true from h)
theorem let_nat {m : Nat} (h : m ≤ 1000) : letV (.int (m : Int)) = true := by
  show (decide (0 ≤ (m : Int)) && decide ((m : Int) ≤ 1000)) = true
  rw [decide_eq_true (by omega), decide_eq_true (by omega)]
  rfl
theorem let_no {x : V} (h : ¬ ∃ m : Nat, x = .int m ∧ m ≤ 1000) : letV x = false := by
  cases e : letV x with
  | false => rfl
  | true => exact absurd (let_is e) h
theorem let_odd {x : V} (h : isIntV x = false) : letV x = false := by
  cases e : letV x with
  | false => rfl
  | true => obtain ⟨m, rfl, hm⟩ := let_is e; rw [small_nat hm] at h; cases h
def ixV : V → Bool
  | .int i => decide (i = 0) || decide (i = 1)
  | _ => false
theorem ix_t {x : V} (h : x = .int 0 ∨ x = .int 1) : ixV x = true := by rcases h with rfl | rfl <;> rfl
theorem ix_f {x : V} (h : ¬ (x = .int 0 ∨ x = .int 1)) : ixV x = false := by
  cases e : ixV x with
  | false => rfl
  | true =>
    cases x with
    | int i =>
      have z : (decide (i = 0) || decide (i = 1)) = true := e
      rw [Bool.or_eq_true, decide_eq_true_eq, decide_eq_true_eq] at z
      exact absurd (z.imp (fun z => by rw [z]) (fun z => by rw [z])) h
    | _ => cases (show false = true from e)
theorem ix_odd {x : V} (h : isIntV x = false) : ixV x = false := ix_f (fun z => by rcases z with rfl | rfl <;> (rw [show isIntV _ = true from short_of (by decide)] at h; cases h))
/-- "" or what is said of a wrong number -/
def wordB (b : Bool) (d : PyData) : Str := if b = true then Str.ofString "" else Str.ofString "number " ++ d.shown
theorem wordB_t {b : Bool} {d : PyData} (h : b = true) : wordB b d = Str.ofString "" := if_pos h
theorem wordB_f {b : Bool} {d : PyData} (h : b = false) : wordB b d = Str.ofString "number " ++ d.shown := if_neg (by rw [h]; decide)
theorem wordB_ok {b : Bool} {x : V} {d : PyData} {K : PySem.W.Frag} {H : Hp} (h : NV K H x d) : PyData.strOk (wordB b d) = true := by
  unfold wordB
  split
  · decide +kernel
  · exact app_ok (by decide +kernel) h.2.2
theorem ix_in (n : Int) : inV (V.int n) [V.int 0, V.int 1] = ixV (.int n) := by
  rw [Bool.eq_iff_iff]
  simp [inV, ixV, eqV]
  try omega
theorem isInt_B : isIntV (.int B) = false := by
  show (decide (-B < B) && decide (B < B)) = false
  rw [decide_eq_false (Int.lt_irrefl B), Bool.and_false]
/-! an and, an if, that are met as a whole -/
@[irreducible] def tAndK (ta tb : TE) : TE := tAndV ta tb
@[irreducible] def tIfK (t : TT) (ta tb : TE) : TE := tIf t ta tb
theorem pe_andK {X : Cx} {a b : Expr} {rest : List Expr} {ta tb : TE} {pos : Pos} (ha : PE X a ta) (hb : PE X (.BoolOp .And (b :: rest) pos) tb) : PE X (.BoolOp .And (a :: b :: rest) pos) (tAndK ta tb) := by
  unfold tAndK
  exact pe_and ha hb
theorem pe_ifExpK {X : Cx} {c a b : Expr} {t : TT} {ta tb : TE} {pos : Pos} (hc : PT X c t) (ha : PE X a ta) (hb : PE X b tb) : PE X (.IfExp c a b pos) (tIfK t ta tb) := by
  unfold tIfK
  exact pe_ifExp hc ha hb
theorem andV_cut {ta tb : TE} {σ : L2.St} {H : Hp} {Q : VK} {v : V} (run : ∀ Q1 : VK, Q1 v H → ta σ H fun x H1 => ∃ c, x = .bl c ∧ if c = true then tb σ H1 Q1 else Q1 (.bl false) H1) (next : Q v H) : tAndK ta tb σ H Q := by
  unfold tAndK
  exact run Q next
theorem tIf_strS {t : TT} {ta tb : TE} {σ : L2.St} {H : Hp} {Q : VK} {w : Str} (run : ∀ Q1 : VK, (∀ H', Same H H' → Q1 (.str w) H') → t σ H fun c H1 => if c = true then ta σ H1 Q1 else tb σ H1 Q1) (next : ∀ H', Same H H' → Q (.str w) H') : tIfK t ta tb σ H Q := by
  unfold tIfK
  exact run Q next
theorem tIf_cut {t : TT} {ta tb : TE} {σ : L2.St} {H : Hp} {Q : VK} {w : Str} (run : ∀ Q1 : VK, Q1 (.str w) H → t σ H fun c H1 => if c = true then ta σ H1 Q1 else tb σ H1 Q1) (next : Q (.str w) H) : tIfK t ta tb σ H Q := by
  unfold tIfK
  exact run Q next
theorem quo_shown75 : Str.ofString "quotient " ++ (ptD (7, 5)).shown = Str.ofString "quotient (7, 5)" := by decide +kernel
theorem quo00 (t : Bool) : quo0 t (3, 4) (0, 0) = none := by cases t <;> decide +kernel
theorem quo75 (t : Bool) : quo0 t (3, 4) (7, 5) = none := by cases t <;> decide +kernel
theorem quo10 (t : Bool) : quo0 t (3, 4) (1, 0) = some (3, 4) := by cases t <;> decide +kernel
theorem smX (t : Bool) : ∀ z ∈ [((0, 0) : Int × Int), (7, 5), (1, 0)], Sm z ∧ Sm (flip t z) ∧ Sm (low t (3, 4) z) ∧ (nrm t z).natAbs < 2 ^ 8000 := by
  intro z hz
  simp only [List.mem_cons, List.not_mem_nil, or_false] at hz
  have small : ∀ n : Nat, n < 2 ^ 100 → n < 2 ^ 3000 ∧ n < 2 ^ 8000 := fun n h => ⟨Nat.lt_trans h (by decide +kernel), Nat.lt_trans h (by decide +kernel)⟩
  rcases hz with rfl | rfl | rfl <;> cases t <;> exact ⟨⟨(small _ (by decide)).1, (small _ (by decide)).1⟩, ⟨(small _ (by decide)).1, (small _ (by decide)).1⟩, ⟨(small _ (by decide)).1, (small _ (by decide)).1⟩, (small _ (by decide)).2⟩
theorem sm34 : Sm ((3, 4) : Int × Int) := ⟨Nat.lt_trans (show 3 < 2 ^ 10 by decide) (by decide +kernel), Nat.lt_trans (show 4 < 2 ^ 10 by decide) (by decide +kernel)⟩
def spVec (K : PySem.W.Frag) (C : Addr) (U : Bool → Addr) (cT : List (Addr × Str)) : Sp := fun vs H Q _ => ∃ p g ga t t2, vs = [.ref p, .ref g, .ref ga] ∧ Die H p ∧ GridAt C U H g t ∧ GridAt C U H ga t2 ∧ t ≠ t2 ∧ Tabs cT H ∧ ∀ H', GotT cT p H H' → Q (.bl true) H'
def spPart (K : PySem.W.Frag) (C : Addr) (U : Bool → Addr) (cT : List (Addr × Str)) : Sp := fun vs H Q _ => ∃ p g t, vs = [.ref p, .ref g] ∧ Die H p ∧ GridAt C U H g t ∧ Tabs cT H ∧ ∀ H', GotT cT p H H' → Q (.bl true) H'
end K07
namespace K07
open PySem PySem.Spec PyProof.Rows L2 GL PySem.GLE LamX
abbrev s__law_points_right : Stmt := topS 43
abbrev N__law_points_right : List Str := ["_law_dice_here", "_law_grid", "_law_odd", "_law_some", "_law_words", "_law_wrong", "_law_told", "_law_due", "_law_one", "_law_other", "_law_turn"]
theorem sc__law_points_right : FnScope N__law_points_right ["_law_dice_here", "_law_grid"] (defScope s__law_points_right) := ⟨rfl, rfl, rfl, by decide +kernel, rfl, by decide +kernel, by decide +kernel⟩
section
variable {P : Program} {w : World} {K : PySem.W.Frag} {mg : Str → Option Value} {base : Heap}
variable {aG dU C CV CM : Addr} {U : Bool → Addr} {us : Bool → List Addr} {cs : Cs}
variable {cT : List (Addr × Str)} {cA PA : Addr}
theorem h_points (T : Txt K mg aG dU C CV CM cs) (c : GCls K C) (i : GIs K C) (kT : PySem.W.kitOne K (.ref C) (.type "tuple") = some false) (MD : Df K mg "_law_met" s__law_met) (MT : MetT K mg cs) (dig : PySem.W.nsIn K cStatics "sys.int_max_str_digits" = some none)
    (TB : TabB base mg cA PA) (inT : (PA, (("_law_points_right" : Str) ++ ".<locals>.") ++ "<lambda>") ∈ cT) (oneT : ∀ p ∈ cT, p.1 = PA → p.2 = (("_law_points_right" : Str) ++ ".<locals>.") ++ "<lambda>")
    (hm_eq : HasM P w K mg base CX0 C "__eq__" 1 ["self", "other"] (spGEq K C U)) (h_law_limit : Has P w K mg base CX0 "_law_limit" 1 [] spLimit) (h_law_pick : Has P w K mg base CX0 "_law_pick" 2 ["_law_dice_here", "_law_items"] spPick)
    (h_law_point_word : Has P w K mg base CX0 "_law_point_word" 3 ["_law_value"] (spWord K)) (h_law_is_int : Has P w K mg base CX0 "_law_is_int" 2 ["_law_value"] (spIsIntL K)) (h_law_first : Has P w K mg base CX0 "_law_first" 1 ["_law_words"] (spFirst K))
    (hm_product : HasM P w K mg base (L2.CX P w) C "product" 4 ["self", "one", "other"] (spX2 K cs C U)) (hm_norm_of : HasM P w K mg base (L2.CX P w) C "norm_of" 4 ["self", "point"] (spX1 K cs C U)) (hm_conjugate_of : HasM P w K mg base (L2.CX P w) C "conjugate_of" 4 ["self", "point"] (spX1 K cs C U))
    (hm_direction_of : HasM P w K mg base (L2.CX P w) C "direction_of" 4 ["self", "point"] (spX1 K cs C U)) (hm_turned : HasM P w K mg base (L2.CX P w) C "turned" 4 ["self", "point", "turn"] (spXT K cs C U)) (hm_unit : HasM P w K mg base (L2.CX P w) C "unit" 3 ["self", "direction"] (spXU K cs C U))
    (hm_quotient : HasM P w K mg base (L2.CX P w) C "quotient" 4 ["self", "point", "divisor"] (spXQ K cs C U)) (D : Dl K mg "_law_points_right" s__law_points_right cA) :
    Has P w K mg base CX0 "_law_points_right" 17 ["_law_dice_here", "_law_grid"] (spPart K C U cT) := by
  have c_product := c.cls
  have c_norm_of := c.cls
  have c_conjugate_of := c.cls
  have c_direction_of := c.cls
  have c_turned := c.cls
  have c_unit := c.cls
  have c_quotient := c.cls
  refine D.hasL sc__law_points_right (fun vs H Q E h => ?_) (fun kV doc pm an cdv ct us hl => match us, hl with | [_, _], _ => rfl) (fun f A outer s H vs Q E gd hr h => ?_)
  · obtain ⟨p, g, t, rfl, _⟩ := h
    rfl
  · obtain ⟨p, g, t, rfl, die, hg, tabs, k⟩ := h
    have hu := hr.units
    refine ⟨_, (pss_cons
 (ps_set (i := 2) sc__law_points_right.nd rfl (Or.inl rfl) (pe_lst (pa_cons pe_non (pa_cons pe_int (pa_cons pe_str (pa_cons (pe_lst (pa_cons pe_int (pa_cons pe_int pa_nil))) (pa_cons (pe_tup (pa_cons pe_int pa_nil)) (pa_cons (pe_tup (pa_cons pe_int (pa_cons pe_int (pa_cons pe_int pa_nil)))) (pa_cons (pe_tup (pa_cons pe_int (pa_cons pe_non pa_nil))) (pa_cons (pe_tup (pa_cons pe_bl (pa_cons pe_int pa_nil))) (pa_cons (pe_tup (pa_cons pe_int (pa_cons pe_str pa_nil))) (pa_cons (pe_tup (pa_cons (pe_call0H h_law_limit gd (hr.mono (by decide)) pass0) (pa_cons pe_int pa_nil))) pa_nil))))))))))))
 (pss_cons
 (ps_set (i := 3) sc__law_points_right.nd rfl (Or.inl rfl) (pe_op op_cat (pv 2) (pe_lst (pa_cons (pe_tup (pa_cons pe_int (pa_cons (pe_op op_sub pe_int (pe_call0H h_law_limit gd (hr.mono (by decide)) pass0)) pa_nil))) (pa_cons (pe_tup pa_nil) (pa_cons pe_dnewK (pa_cons (pv 1) (pa_cons (pe_tup (pa_cons pe_int (pa_cons pe_int pa_nil))) (pa_cons (pe_tup (pa_cons pe_int (pa_cons pe_int pa_nil))) (pa_cons (pe_tup (pa_cons (pe_op op_sub (pe_call0H h_law_limit gd (hr.mono (by decide)) pass0) pe_int) (pa_cons pe_int pa_nil))) (pa_cons (pe_tup (pa_cons pe_int (pa_cons (pe_op op_sub pe_int pe_int) pa_nil))) pa_nil)))))))))))
 (pss_cons
 (ps_set (i := 3) sc__law_points_right.nd rfl (Or.inl rfl) (pe_op op_cat (pv 3) (pe_op op_rep (pe_lst (pa_cons (pe_tup (pa_cons pe_int (pa_cons pe_int pa_nil))) (pa_cons (pe_tup (pa_cons pe_int (pa_cons pe_int pa_nil))) pa_nil))) pe_int)))
 (pss_cons
 (ps_asg (pe_tup (pa_cons (pe_callH h_law_pick gd (hr.mono (by decide)) pass0 (pa_cons (pv 0) (pa_cons (pv 3) pa_nil))) (pa_cons (pe_callH h_law_pick gd (hr.mono (by decide)) pass0 (pa_cons (pv 0) (pa_cons (pv 3) pa_nil))) pa_nil))) (pg_tup (by rfl) (pgs_cons (pg_name (i := 8) sc__law_points_right.nd rfl (Or.inr rfl)) (pgs_cons (pg_name (i := 9) sc__law_points_right.nd rfl (Or.inr rfl)) pgs_nil))))
 (pss_cons
 (ps_set (i := 10) sc__law_points_right.nd rfl (Or.inr rfl) (pe_callH h_law_pick gd (hr.mono (by decide)) pass0 (pa_cons (pv 0) (pa_cons (pe_lst (pa_cons pe_int (pa_cons pe_int (pa_cons (pe_op op_sub pe_int pe_int) (pa_cons (pe_op op_sub (pe_call0H h_law_limit gd (hr.mono (by decide)) pass0) pe_int) (pa_cons pe_non (pa_cons pe_bl (pa_cons pe_str (pa_cons (pe_tup (pa_cons pe_int pa_nil)) (pa_cons (pe_call0H h_law_limit gd (hr.mono (by decide)) pass0) (pa_cons (pe_lst pa_nil) (pa_cons pe_dnewK pa_nil)))))))))))) pa_nil))))
 (pss_cons
 (ps_par (i := 4) (j := 5) (by rfl) sc__law_points_right.nd rfl rfl (by decide) rfl rfl (pa_cons (pe_lst (pa_cons (pe_callH h_law_point_word gd (hr.mono (by decide)) pass0 (pa_cons (pv 8) pa_nil)) (pa_cons (pe_callH h_law_point_word gd (hr.mono (by decide)) pass0 (pa_cons (pv 9) pa_nil)) pa_nil))) (pa_cons (pe_ifExp (pt_val (pe_callH h_law_is_int gd (hr.mono (by decide)) pass0 (pa_cons (pv 10) pa_nil))) pe_str (pe_op op_add_str pe_str (pe_callB (call_reprQ dig gd hu) (by exact rfl) T.zrepr (by decide +kernel) (pa_cons (pv 10) pa_nil)))) pa_nil)) (by rfl))
 (pss_cons
 (ps_set (i := 6) sc__law_points_right.nd rfl (Or.inl rfl) (pe_lst (pa_cons (pe_met (k := 13) MD MT dig (by exact rfl) TB rfl inT oneT gd (hr.mono (by decide)) (show LamS (defScope s__law_points_right) _ from lamS_by (by decide +kernel)) rfl (fun _ _ _ _ _ => rfl) (fun A outer s H E f c' gd hr => (pe_methH (pv 1) c_product hm_product gd (hr.mono (by decide)) (passes_call (takes_of rfl rfl rfl rfl) (fun _ _ _ _ e => e)) (pa_cons (pv 8) (pa_cons (pv 9) pa_nil))))) pa_nil)))
 (pss_cons
 (ps_expr (pe_bm PySem.F.plainAttrs_list PySem.F.slot_list_append PySem.F.type_list_append mt_append (pv 6) (pa_cons (pe_met (k := 13) MD MT dig (by exact rfl) TB rfl inT oneT gd (hr.mono (by decide)) (show LamS (defScope s__law_points_right) _ from lamS_by (by decide +kernel)) rfl (fun _ _ _ _ _ => rfl) (fun A outer s H E f c' gd hr => (pe_methH (pv 1) c_norm_of hm_norm_of gd (hr.mono (by decide)) (passes_call (takes_of rfl rfl rfl rfl) (fun _ _ _ _ e => e)) (pa_cons (pv 8) pa_nil)))) pa_nil)))
 (pss_cons
 (ps_expr (pe_bm PySem.F.plainAttrs_list PySem.F.slot_list_append PySem.F.type_list_append mt_append (pv 6) (pa_cons (pe_met (k := 13) MD MT dig (by exact rfl) TB rfl inT oneT gd (hr.mono (by decide)) (show LamS (defScope s__law_points_right) _ from lamS_by (by decide +kernel)) rfl (fun _ _ _ _ _ => rfl) (fun A outer s H E f c' gd hr => (pe_methH (pv 1) c_conjugate_of hm_conjugate_of gd (hr.mono (by decide)) (passes_call (takes_of rfl rfl rfl rfl) (fun _ _ _ _ e => e)) (pa_cons (pv 8) pa_nil)))) pa_nil)))
 (pss_cons
 (ps_expr (pe_bm PySem.F.plainAttrs_list PySem.F.slot_list_append PySem.F.type_list_append mt_append (pv 6) (pa_cons (pe_met (k := 13) MD MT dig (by exact rfl) TB rfl inT oneT gd (hr.mono (by decide)) (show LamS (defScope s__law_points_right) _ from lamS_by (by decide +kernel)) rfl (fun _ _ _ _ _ => rfl) (fun A outer s H E f c' gd hr => (pe_methH (pv 1) c_direction_of hm_direction_of gd (hr.mono (by decide)) (passes_call (takes_of rfl rfl rfl rfl) (fun _ _ _ _ e => e)) (pa_cons (pv 8) pa_nil)))) pa_nil)))
 (pss_cons
 (ps_expr (pe_bm PySem.F.plainAttrs_list PySem.F.slot_list_append PySem.F.type_list_append mt_append (pv 6) (pa_cons (pe_met (k := 13) MD MT dig (by exact rfl) TB rfl inT oneT gd (hr.mono (by decide)) (show LamS (defScope s__law_points_right) _ from lamS_by (by decide +kernel)) rfl (fun _ _ _ _ _ => rfl) (fun A outer s H E f c' gd hr => (pe_methH (pv 1) c_turned hm_turned gd (hr.mono (by decide)) (passes_call (takes_of rfl rfl rfl rfl) (fun _ _ _ _ e => e)) (pa_cons (pv 8) (pa_cons (pv 10) pa_nil))))) pa_nil)))
 (pss_cons
 (ps_expr (pe_bm PySem.F.plainAttrs_list PySem.F.slot_list_append PySem.F.type_list_append mt_append (pv 6) (pa_cons (pe_met (k := 13) MD MT dig (by exact rfl) TB rfl inT oneT gd (hr.mono (by decide)) (show LamS (defScope s__law_points_right) _ from lamS_by (by decide +kernel)) rfl (fun _ _ _ _ _ => rfl) (fun A outer s H E f c' gd hr => (pe_methH (pv 1) c_unit hm_unit gd (hr.mono (by decide)) (passes_call (takes_of rfl rfl rfl rfl) (fun _ _ _ _ e => e)) (pa_cons (pv 10) pa_nil)))) pa_nil)))
 (pss_cons
 (ps_expr (pe_bm PySem.F.plainAttrs_list PySem.F.slot_list_append PySem.F.type_list_append mt_append (pv 6) (pa_cons (pe_met (k := 13) MD MT dig (by exact rfl) TB rfl inT oneT gd (hr.mono (by decide)) (show LamS (defScope s__law_points_right) _ from lamS_by (by decide +kernel)) rfl (fun _ _ _ _ _ => rfl) (fun A outer s H E f c' gd hr => (pe_methH (pv 1) c_quotient hm_quotient gd (hr.mono (by decide)) (passes_call (takes_of rfl rfl rfl rfl) (fun _ _ _ _ e => e)) (pa_cons (pv 8) (pa_cons (pv 9) pa_nil))))) pa_nil)))
 (pss_cons
 (ps_set (i := 7) sc__law_points_right.nd rfl (Or.inl rfl) (pe_lst (pa_cons (pe_callH h_law_first gd (hr.mono (by decide)) pass0 (pa_cons (pv 4) pa_nil)) (pa_cons (pe_ix ix_list (pv 4) pe_int (fun _ _ => rfl)) (pa_cons (pe_ix ix_list (pv 4) pe_int (fun _ _ => rfl)) (pa_cons (pe_ix ix_list (pv 4) pe_int (fun _ _ => rfl)) (pa_cons (pe_callH h_law_first gd (hr.mono (by decide)) pass0 (pa_cons (pe_lst (pa_cons (pe_ix ix_list (pv 4) pe_int (fun _ _ => rfl)) (pa_cons (pv 5) pa_nil))) pa_nil)) (pa_cons (pv 5) pa_nil))))))))
 (pss_one
 (ps_ret (pe_cmpR (op_eqD hu) (pv 6) (pe_op op_cat (pv 7) (pe_lst (pa_cons (pe_callH h_law_first gd (hr.mono (by decide)) pass0 (pa_cons (pe_op op_cat (pv 4) (pe_op op_rep (pe_lst (pa_cons pe_str pa_nil)) (pe_callTy call_int1 (by exact rfl) T.zint (by decide +kernel) (pa_cons (pe_cmpR (op_eq0 i c.cls hu hm_eq gd (hr.mono (by decide))) (pv 9) (pe_tup (pa_cons pe_int (pa_cons pe_int pa_nil))) (nomark _)) pa_nil)))) pa_nil)) pa_nil))) (nomark _)))))))))))))))))), ?_⟩
    have st0 : GL.St cT p (mask p H) H := St.start die tabs
    have hgM : GridAt C U (mask p H) g t := gridAt_mask hg die
    have smA : Same (mask p H) (mask p H) := same_id
    refine ⟨by show 2 ≤ sizeLine; decide, fun l0 n0 => ?_⟩
    have stl0 := st_new (o := HO.lst [V.int 1, V.int 2]) st0 n0 (fun _ z => by cases z)
    have sml0 : Same (mask p H) (upd (mask p H) l0 (HO.lst [V.int 1, V.int 2])) := Same.new (st_none st0 n0)
    have el0 : upd (mask p H) l0 (HO.lst [V.int 1, V.int 2]) l0 = some (HO.lst [V.int 1, V.int 2]) := upd_same
    generalize upd (mask p H) l0 (HO.lst [V.int 1, V.int 2]) = Ml0 at *
    generalize upd H l0 (HO.lst [V.int 1, V.int 2]) = Hl0 at *
    replace hgM := hgM.same sml0
    replace smA := smA.trans sml0
    have dl0 : Dp K Ml0 (.ref l0) (PyData.list [PyData.int 1, PyData.int 2]) := .lst (SqL.of el0) (.cons (.int _) (.cons (.int _) .nil))
    refine ⟨by show 1 ≤ sizeLine; decide, fun l1 n1 => ?_⟩
    have stl1 := st_new (o := HO.tup [V.int 1]) stl0 n1 (fun _ z => by cases z)
    have sml1 : Same Ml0 (upd Ml0 l1 (HO.tup [V.int 1])) := Same.new (st_none stl0 n1)
    have el1 : upd Ml0 l1 (HO.tup [V.int 1]) l1 = some (HO.tup [V.int 1]) := upd_same
    generalize upd Ml0 l1 (HO.tup [V.int 1]) = Ml1 at *
    generalize upd Hl0 l1 (HO.tup [V.int 1]) = Hl1 at *
    replace hgM := hgM.same sml1
    replace smA := smA.trans sml1
    replace el0 := sml1 _ _ el0
    replace dl0 := dp_same sml1 dl0
    have dl1 : Dp K Ml1 (.ref l1) (PyData.tuple [PyData.int 1]) := .tup (SqT.of el1) (.cons (.int _) .nil)
    refine ⟨by show 3 ≤ sizeLine; decide, fun l2 n2 => ?_⟩
    have stl2 := st_new (o := HO.tup [V.int 1, V.int 2, V.int 3]) stl1 n2 (fun _ z => by cases z)
    have sml2 : Same Ml1 (upd Ml1 l2 (HO.tup [V.int 1, V.int 2, V.int 3])) := Same.new (st_none stl1 n2)
    have el2 : upd Ml1 l2 (HO.tup [V.int 1, V.int 2, V.int 3]) l2 = some (HO.tup [V.int 1, V.int 2, V.int 3]) := upd_same
    generalize upd Ml1 l2 (HO.tup [V.int 1, V.int 2, V.int 3]) = Ml2 at *
    generalize upd Hl1 l2 (HO.tup [V.int 1, V.int 2, V.int 3]) = Hl2 at *
    replace hgM := hgM.same sml2
    replace smA := smA.trans sml2
    replace el0 := sml2 _ _ el0
    replace dl0 := dp_same sml2 dl0
    replace el1 := sml2 _ _ el1
    replace dl1 := dp_same sml2 dl1
    have dl2 : Dp K Ml2 (.ref l2) (PyData.tuple [PyData.int 1, PyData.int 2, PyData.int 3]) := .tup (SqT.of el2) (.cons (.int _) (.cons (.int _) (.cons (.int _) .nil)))
    refine ⟨by show 2 ≤ sizeLine; decide, fun l3 n3 => ?_⟩
    have stl3 := st_new (o := HO.tup [V.int 1, V.non]) stl2 n3 (fun _ z => by cases z)
    have sml3 : Same Ml2 (upd Ml2 l3 (HO.tup [V.int 1, V.non])) := Same.new (st_none stl2 n3)
    have el3 : upd Ml2 l3 (HO.tup [V.int 1, V.non]) l3 = some (HO.tup [V.int 1, V.non]) := upd_same
    generalize upd Ml2 l3 (HO.tup [V.int 1, V.non]) = Ml3 at *
    generalize upd Hl2 l3 (HO.tup [V.int 1, V.non]) = Hl3 at *
    replace hgM := hgM.same sml3
    replace smA := smA.trans sml3
    replace el0 := sml3 _ _ el0
    replace dl0 := dp_same sml3 dl0
    replace el1 := sml3 _ _ el1
    replace dl1 := dp_same sml3 dl1
    replace el2 := sml3 _ _ el2
    replace dl2 := dp_same sml3 dl2
    have dl3 : Dp K Ml3 (.ref l3) (PyData.tuple [PyData.int 1, PyData.none]) := .tup (SqT.of el3) (.cons (.int _) (.cons .non .nil))
    refine ⟨by show 2 ≤ sizeLine; decide, fun l4 n4 => ?_⟩
    have stl4 := st_new (o := HO.tup [V.bl true, V.int 0]) stl3 n4 (fun _ z => by cases z)
    have sml4 : Same Ml3 (upd Ml3 l4 (HO.tup [V.bl true, V.int 0])) := Same.new (st_none stl3 n4)
    have el4 : upd Ml3 l4 (HO.tup [V.bl true, V.int 0]) l4 = some (HO.tup [V.bl true, V.int 0]) := upd_same
    generalize upd Ml3 l4 (HO.tup [V.bl true, V.int 0]) = Ml4 at *
    generalize upd Hl3 l4 (HO.tup [V.bl true, V.int 0]) = Hl4 at *
    replace hgM := hgM.same sml4
    replace smA := smA.trans sml4
    replace el0 := sml4 _ _ el0
    replace dl0 := dp_same sml4 dl0
    replace el1 := sml4 _ _ el1
    replace dl1 := dp_same sml4 dl1
    replace el2 := sml4 _ _ el2
    replace dl2 := dp_same sml4 dl2
    replace el3 := sml4 _ _ el3
    replace dl3 := dp_same sml4 dl3
    have dl4 : Dp K Ml4 (.ref l4) (PyData.tuple [PyData.bool true, PyData.int 0]) := .tup (SqT.of el4) (.cons (.bl _) (.cons (.int _) .nil))
    refine ⟨by show 2 ≤ sizeLine; decide, fun l5 n5 => ?_⟩
    have stl5 := st_new (o := HO.tup [V.int 0, V.str (Str.ofString "1")]) stl4 n5 (fun _ z => by cases z)
    have sml5 : Same Ml4 (upd Ml4 l5 (HO.tup [V.int 0, V.str (Str.ofString "1")])) := Same.new (st_none stl4 n5)
    have el5 : upd Ml4 l5 (HO.tup [V.int 0, V.str (Str.ofString "1")]) l5 = some (HO.tup [V.int 0, V.str (Str.ofString "1")]) := upd_same
    generalize upd Ml4 l5 (HO.tup [V.int 0, V.str (Str.ofString "1")]) = Ml5 at *
    generalize upd Hl4 l5 (HO.tup [V.int 0, V.str (Str.ofString "1")]) = Hl5 at *
    replace hgM := hgM.same sml5
    replace smA := smA.trans sml5
    replace el0 := sml5 _ _ el0
    replace dl0 := dp_same sml5 dl0
    replace el1 := sml5 _ _ el1
    replace dl1 := dp_same sml5 dl1
    replace el2 := sml5 _ _ el2
    replace dl2 := dp_same sml5 dl2
    replace el3 := sml5 _ _ el3
    replace dl3 := dp_same sml5 dl3
    replace el4 := sml5 _ _ el4
    replace dl4 := dp_same sml5 dl4
    have dl5 : Dp K Ml5 (.ref l5) (PyData.tuple [PyData.int 0, PyData.str (Str.ofString "1")]) := .tup (SqT.of el5) (.cons (.int _) (.cons (.str _) .nil))
    refine ⟨rfl, by show 2 ≤ sizeLine; decide, fun l6 n6 => ?_⟩
    have stl6 := st_new (o := HO.tup [V.int B, V.int 0]) stl5 n6 (fun _ z => by cases z)
    have sml6 : Same Ml5 (upd Ml5 l6 (HO.tup [V.int B, V.int 0])) := Same.new (st_none stl5 n6)
    have el6 : upd Ml5 l6 (HO.tup [V.int B, V.int 0]) l6 = some (HO.tup [V.int B, V.int 0]) := upd_same
    generalize upd Ml5 l6 (HO.tup [V.int B, V.int 0]) = Ml6 at *
    generalize upd Hl5 l6 (HO.tup [V.int B, V.int 0]) = Hl6 at *
    replace hgM := hgM.same sml6
    replace smA := smA.trans sml6
    replace el0 := sml6 _ _ el0
    replace dl0 := dp_same sml6 dl0
    replace el1 := sml6 _ _ el1
    replace dl1 := dp_same sml6 dl1
    replace el2 := sml6 _ _ el2
    replace dl2 := dp_same sml6 dl2
    replace el3 := sml6 _ _ el3
    replace dl3 := dp_same sml6 dl3
    replace el4 := sml6 _ _ el4
    replace dl4 := dp_same sml6 dl4
    replace el5 := sml6 _ _ el5
    replace dl5 := dp_same sml6 dl5
    have dl6 : Dp K Ml6 (.ref l6) (PyData.tuple [PyData.int B, PyData.int 0]) := .tup (SqT.of el6) (.cons (.int _) (.cons (.int _) .nil))
    have ov1 : ∀ x ∈ [V.non, V.int 1, V.str (Str.ofString "1,2"), V.ref l0, V.ref l1, V.ref l2, V.ref l3, V.ref l4, V.ref l5, V.ref l6], ∃ o, OV K C U Ml6 x o := by
      simp only [List.forall_mem_cons, List.not_mem_nil, false_implies, implies_true, and_true]
      refine ⟨⟨_, .inl ⟨_, rfl, .inl .non, ⟨by first | rfl | decide +kernel, by first | decide | simp [PyData.depth, PyData.depthAll], by intro ds e; first | (cases e; decide) | cases e⟩⟩⟩, ⟨_, .inl ⟨_, rfl, .inl (.int _), ⟨by first | rfl | decide +kernel, by first | decide | simp [PyData.depth, PyData.depthAll], by intro ds e; first | (cases e; decide) | cases e⟩⟩⟩, ⟨_, .inl ⟨_, rfl, .inl (.str _), ⟨by first | rfl | decide +kernel, by first | decide | simp [PyData.depth, PyData.depthAll], by intro ds e; first | (cases e; decide) | cases e⟩⟩⟩, ⟨_, .inl ⟨_, rfl, .inl dl0, ⟨by first | rfl | decide +kernel, by first | decide | simp [PyData.depth, PyData.depthAll], by intro ds e; first | (cases e; decide) | cases e⟩⟩⟩, ⟨_, .inl ⟨_, rfl, .inl dl1, ⟨by first | rfl | decide +kernel, by first | decide | simp [PyData.depth, PyData.depthAll], by intro ds e; first | (cases e; decide) | cases e⟩⟩⟩, ⟨_, .inl ⟨_, rfl, .inl dl2, ⟨by first | rfl | decide +kernel, by first | decide | simp [PyData.depth, PyData.depthAll], by intro ds e; first | (cases e; decide) | cases e⟩⟩⟩, ⟨_, .inl ⟨_, rfl, .inl dl3, ⟨by first | rfl | decide +kernel, by first | decide | simp [PyData.depth, PyData.depthAll], by intro ds e; first | (cases e; decide) | cases e⟩⟩⟩, ⟨_, .inl ⟨_, rfl, .inl dl4, ⟨by first | rfl | decide +kernel, by first | decide | simp [PyData.depth, PyData.depthAll], by intro ds e; first | (cases e; decide) | cases e⟩⟩⟩, ⟨_, .inl ⟨_, rfl, .inl dl5, ⟨by first | rfl | decide +kernel, by first | decide | simp [PyData.depth, PyData.depthAll], by intro ds e; first | (cases e; decide) | cases e⟩⟩⟩, ⟨_, .inl ⟨_, rfl, .inl dl6, ⟨by first | rfl | decide +kernel, by first | decide | simp [PyData.depth, PyData.depthAll], by intro ds e; first | (cases e; decide) | cases e⟩⟩⟩⟩
    refine ⟨by show 10 ≤ sizeLine; decide, fun O1 nO1 => ?_⟩
    have stO1 := st_new (o := HO.lst [V.non, V.int 1, V.str (Str.ofString "1,2"), V.ref l0, V.ref l1, V.ref l2, V.ref l3, V.ref l4, V.ref l5, V.ref l6]) stl6 nO1 (fun _ z => by cases z)
    have smO1 : Same Ml6 (upd Ml6 O1 (HO.lst [V.non, V.int 1, V.str (Str.ofString "1,2"), V.ref l0, V.ref l1, V.ref l2, V.ref l3, V.ref l4, V.ref l5, V.ref l6])) := Same.new (st_none stl6 nO1)
    have eO1 : upd Ml6 O1 (HO.lst [V.non, V.int 1, V.str (Str.ofString "1,2"), V.ref l0, V.ref l1, V.ref l2, V.ref l3, V.ref l4, V.ref l5, V.ref l6]) O1 = some (HO.lst [V.non, V.int 1, V.str (Str.ofString "1,2"), V.ref l0, V.ref l1, V.ref l2, V.ref l3, V.ref l4, V.ref l5, V.ref l6]) := upd_same
    generalize upd Ml6 O1 (HO.lst [V.non, V.int 1, V.str (Str.ofString "1,2"), V.ref l0, V.ref l1, V.ref l2, V.ref l3, V.ref l4, V.ref l5, V.ref l6]) = MO1 at *
    generalize upd Hl6 O1 (HO.lst [V.non, V.int 1, V.str (Str.ofString "1,2"), V.ref l0, V.ref l1, V.ref l2, V.ref l3, V.ref l4, V.ref l5, V.ref l6]) = HO1 at *
    replace hgM := hgM.same smO1
    replace smA := smA.trans smO1
    replace el0 := smO1 _ _ el0
    replace dl0 := dp_same smO1 dl0
    replace el1 := smO1 _ _ el1
    replace dl1 := dp_same smO1 dl1
    replace el2 := smO1 _ _ el2
    replace dl2 := dp_same smO1 dl2
    replace el3 := smO1 _ _ el3
    replace dl3 := dp_same smO1 dl3
    replace el4 := smO1 _ _ el4
    replace dl4 := dp_same smO1 dl4
    replace el5 := smO1 _ _ el5
    replace dl5 := dp_same smO1 dl5
    replace el6 := smO1 _ _ el6
    replace dl6 := dp_same smO1 dl6
    replace ov1 := all_same ov1 smO1
    clear el0 dl0 el1 dl1 el2 dl2 el3 dl3 el4 dl4 el5 dl5 el6 dl6
    have lenxs1 : ([V.non, V.int 1, V.str (Str.ofString "1,2"), V.ref l0, V.ref l1, V.ref l2, V.ref l3, V.ref l4, V.ref l5, V.ref l6] : List V).length = 10 := rfl
    generalize ([V.non, V.int 1, V.str (Str.ofString "1,2"), V.ref l0, V.ref l1, V.ref l2, V.ref l3, V.ref l4, V.ref l5, V.ref l6] : List V) = xs1 at eO1 ov1 lenxs1
    refine ⟨_, rfl, rfl, _, _, rfl, rfl, by show 2 ≤ sizeLine; decide, fun l8 n8 => ?_⟩
    have stl8 := st_new (o := HO.tup [V.int 0, V.int (0 - B)]) stO1 n8 (fun _ z => by cases z)
    have sml8 : Same MO1 (upd MO1 l8 (HO.tup [V.int 0, V.int (0 - B)])) := Same.new (st_none stO1 n8)
    have el8 : upd MO1 l8 (HO.tup [V.int 0, V.int (0 - B)]) l8 = some (HO.tup [V.int 0, V.int (0 - B)]) := upd_same
    generalize upd MO1 l8 (HO.tup [V.int 0, V.int (0 - B)]) = Ml8 at *
    generalize upd HO1 l8 (HO.tup [V.int 0, V.int (0 - B)]) = Hl8 at *
    replace hgM := hgM.same sml8
    replace smA := smA.trans sml8
    replace ov1 := all_same ov1 sml8
    replace eO1 := sml8 _ _ eO1
    have dl8 : Dp K Ml8 (.ref l8) (PyData.tuple [PyData.int 0, PyData.int (0 - B)]) := .tup (SqT.of el8) (.cons (.int _) (.cons (.int _) .nil))
    refine ⟨by show 0 ≤ sizeLine; decide, fun l9 n9 => ?_⟩
    have stl9 := st_new (o := HO.tup []) stl8 n9 (fun _ z => by cases z)
    have sml9 : Same Ml8 (upd Ml8 l9 (HO.tup [])) := Same.new (st_none stl8 n9)
    have el9 : upd Ml8 l9 (HO.tup []) l9 = some (HO.tup []) := upd_same
    generalize upd Ml8 l9 (HO.tup []) = Ml9 at *
    generalize upd Hl8 l9 (HO.tup []) = Hl9 at *
    replace hgM := hgM.same sml9
    replace smA := smA.trans sml9
    replace ov1 := all_same ov1 sml9
    replace eO1 := sml9 _ _ eO1
    replace el8 := sml9 _ _ el8
    replace dl8 := dp_same sml9 dl8
    have dl9 : Dp K Ml9 (.ref l9) (PyData.tuple []) := .tup (SqT.of el9) .nil
    refine fun l10 n10 => ?_
    have stl10 := st_new (o := HO.dK []) stl9 n10 (fun _ z => by cases z)
    have sml10 : Same Ml9 (upd Ml9 l10 (HO.dK [])) := Same.new (st_none stl9 n10)
    have el10 : upd Ml9 l10 (HO.dK []) l10 = some (HO.dK []) := upd_same
    generalize upd Ml9 l10 (HO.dK []) = Ml10 at *
    generalize upd Hl9 l10 (HO.dK []) = Hl10 at *
    replace hgM := hgM.same sml10
    replace smA := smA.trans sml10
    replace ov1 := all_same ov1 sml10
    replace eO1 := sml10 _ _ eO1
    replace el8 := sml10 _ _ el8
    replace dl8 := dp_same sml10 dl8
    replace el9 := sml10 _ _ el9
    replace dl9 := dp_same sml10 dl9
    refine ⟨_, rfl, by show 2 ≤ sizeLine; decide, fun l11 n11 => ?_⟩
    have stl11 := st_new (o := HO.tup [V.int 0, V.int 0]) stl10 n11 (fun _ z => by cases z)
    have sml11 : Same Ml10 (upd Ml10 l11 (HO.tup [V.int 0, V.int 0])) := Same.new (st_none stl10 n11)
    have el11 : upd Ml10 l11 (HO.tup [V.int 0, V.int 0]) l11 = some (HO.tup [V.int 0, V.int 0]) := upd_same
    generalize upd Ml10 l11 (HO.tup [V.int 0, V.int 0]) = Ml11 at *
    generalize upd Hl10 l11 (HO.tup [V.int 0, V.int 0]) = Hl11 at *
    replace hgM := hgM.same sml11
    replace smA := smA.trans sml11
    replace ov1 := all_same ov1 sml11
    replace eO1 := sml11 _ _ eO1
    replace el8 := sml11 _ _ el8
    replace dl8 := dp_same sml11 dl8
    replace el9 := sml11 _ _ el9
    replace dl9 := dp_same sml11 dl9
    replace el10 := sml11 _ _ el10
    have dl11 : Dp K Ml11 (.ref l11) (PyData.tuple [PyData.int 0, PyData.int 0]) := .tup (SqT.of el11) (.cons (.int _) (.cons (.int _) .nil))
    refine ⟨by show 2 ≤ sizeLine; decide, fun l12 n12 => ?_⟩
    have stl12 := st_new (o := HO.tup [V.int 1, V.int 2]) stl11 n12 (fun _ z => by cases z)
    have sml12 : Same Ml11 (upd Ml11 l12 (HO.tup [V.int 1, V.int 2])) := Same.new (st_none stl11 n12)
    have el12 : upd Ml11 l12 (HO.tup [V.int 1, V.int 2]) l12 = some (HO.tup [V.int 1, V.int 2]) := upd_same
    generalize upd Ml11 l12 (HO.tup [V.int 1, V.int 2]) = Ml12 at *
    generalize upd Hl11 l12 (HO.tup [V.int 1, V.int 2]) = Hl12 at *
    replace hgM := hgM.same sml12
    replace smA := smA.trans sml12
    replace ov1 := all_same ov1 sml12
    replace eO1 := sml12 _ _ eO1
    replace el8 := sml12 _ _ el8
    replace dl8 := dp_same sml12 dl8
    replace el9 := sml12 _ _ el9
    replace dl9 := dp_same sml12 dl9
    replace el10 := sml12 _ _ el10
    replace el11 := sml12 _ _ el11
    replace dl11 := dp_same sml12 dl11
    have dl12 : Dp K Ml12 (.ref l12) (PyData.tuple [PyData.int 1, PyData.int 2]) := .tup (SqT.of el12) (.cons (.int _) (.cons (.int _) .nil))
    refine ⟨rfl, _, _, rfl, rfl, by show 2 ≤ sizeLine; decide, fun l13 n13 => ?_⟩
    have stl13 := st_new (o := HO.tup [V.int (B - 1), V.int 0]) stl12 n13 (fun _ z => by cases z)
    have sml13 : Same Ml12 (upd Ml12 l13 (HO.tup [V.int (B - 1), V.int 0])) := Same.new (st_none stl12 n13)
    have el13 : upd Ml12 l13 (HO.tup [V.int (B - 1), V.int 0]) l13 = some (HO.tup [V.int (B - 1), V.int 0]) := upd_same
    generalize upd Ml12 l13 (HO.tup [V.int (B - 1), V.int 0]) = Ml13 at *
    generalize upd Hl12 l13 (HO.tup [V.int (B - 1), V.int 0]) = Hl13 at *
    replace hgM := hgM.same sml13
    replace smA := smA.trans sml13
    replace ov1 := all_same ov1 sml13
    replace eO1 := sml13 _ _ eO1
    replace el8 := sml13 _ _ el8
    replace dl8 := dp_same sml13 dl8
    replace el9 := sml13 _ _ el9
    replace dl9 := dp_same sml13 dl9
    replace el10 := sml13 _ _ el10
    replace el11 := sml13 _ _ el11
    replace dl11 := dp_same sml13 dl11
    replace el12 := sml13 _ _ el12
    replace dl12 := dp_same sml13 dl12
    have dl13 : Dp K Ml13 (.ref l13) (PyData.tuple [PyData.int (B - 1), PyData.int 0]) := .tup (SqT.of el13) (.cons (.int _) (.cons (.int _) .nil))
    refine ⟨_, _, rfl, rfl, by show 2 ≤ sizeLine; decide, fun l14 n14 => ?_⟩
    have stl14 := st_new (o := HO.tup [V.int 3, V.int (0 - 3)]) stl13 n14 (fun _ z => by cases z)
    have sml14 : Same Ml13 (upd Ml13 l14 (HO.tup [V.int 3, V.int (0 - 3)])) := Same.new (st_none stl13 n14)
    have el14 : upd Ml13 l14 (HO.tup [V.int 3, V.int (0 - 3)]) l14 = some (HO.tup [V.int 3, V.int (0 - 3)]) := upd_same
    generalize upd Ml13 l14 (HO.tup [V.int 3, V.int (0 - 3)]) = Ml14 at *
    generalize upd Hl13 l14 (HO.tup [V.int 3, V.int (0 - 3)]) = Hl14 at *
    replace hgM := hgM.same sml14
    replace smA := smA.trans sml14
    replace ov1 := all_same ov1 sml14
    replace eO1 := sml14 _ _ eO1
    replace el8 := sml14 _ _ el8
    replace dl8 := dp_same sml14 dl8
    replace el9 := sml14 _ _ el9
    replace dl9 := dp_same sml14 dl9
    replace el10 := sml14 _ _ el10
    replace el11 := sml14 _ _ el11
    replace dl11 := dp_same sml14 dl11
    replace el12 := sml14 _ _ el12
    replace dl12 := dp_same sml14 dl12
    replace el13 := sml14 _ _ el13
    replace dl13 := dp_same sml14 dl13
    have dl14 : Dp K Ml14 (.ref l14) (PyData.tuple [PyData.int 3, PyData.int (0 - 3)]) := .tup (SqT.of el14) (.cons (.int _) (.cons (.int _) .nil))
    have ov2 : ∀ x ∈ [V.ref l8, V.ref l9, V.ref l10, V.ref g, V.ref l11, V.ref l12, V.ref l13, V.ref l14], ∃ o, OV K C U Ml14 x o := by
      simp only [List.forall_mem_cons, List.not_mem_nil, false_implies, implies_true, and_true]
      refine ⟨⟨_, .inl ⟨_, rfl, .inl dl8, ⟨by first | rfl | decide +kernel, by first | decide | simp [PyData.depth, PyData.depthAll], by intro ds e; first | (cases e; decide) | cases e⟩⟩⟩, ⟨_, .inl ⟨_, rfl, .inl dl9, ⟨by first | rfl | decide +kernel, by first | decide | simp [PyData.depth, PyData.depthAll], by intro ds e; first | (cases e; decide) | cases e⟩⟩⟩, ⟨_, .inr (.inr ⟨rfl, _, rfl, el10⟩)⟩, ⟨none, .inr (.inl ⟨rfl, g, t, rfl, hgM⟩)⟩, ⟨_, .inl ⟨_, rfl, .inl dl11, ⟨by first | rfl | decide +kernel, by first | decide | simp [PyData.depth, PyData.depthAll], by intro ds e; first | (cases e; decide) | cases e⟩⟩⟩, ⟨_, .inl ⟨_, rfl, .inl dl12, ⟨by first | rfl | decide +kernel, by first | decide | simp [PyData.depth, PyData.depthAll], by intro ds e; first | (cases e; decide) | cases e⟩⟩⟩, ⟨_, .inl ⟨_, rfl, .inl dl13, ⟨by first | rfl | decide +kernel, by first | decide | simp [PyData.depth, PyData.depthAll], by intro ds e; first | (cases e; decide) | cases e⟩⟩⟩, ⟨_, .inl ⟨_, rfl, .inl dl14, ⟨by first | rfl | decide +kernel, by first | decide | simp [PyData.depth, PyData.depthAll], by intro ds e; first | (cases e; decide) | cases e⟩⟩⟩⟩
    refine ⟨by show 8 ≤ sizeLine; decide, fun O2 nO2 => ?_⟩
    have stO2 := st_new (o := HO.lst [V.ref l8, V.ref l9, V.ref l10, V.ref g, V.ref l11, V.ref l12, V.ref l13, V.ref l14]) stl14 nO2 (fun _ z => by cases z)
    have smO2 : Same Ml14 (upd Ml14 O2 (HO.lst [V.ref l8, V.ref l9, V.ref l10, V.ref g, V.ref l11, V.ref l12, V.ref l13, V.ref l14])) := Same.new (st_none stl14 nO2)
    have eO2 : upd Ml14 O2 (HO.lst [V.ref l8, V.ref l9, V.ref l10, V.ref g, V.ref l11, V.ref l12, V.ref l13, V.ref l14]) O2 = some (HO.lst [V.ref l8, V.ref l9, V.ref l10, V.ref g, V.ref l11, V.ref l12, V.ref l13, V.ref l14]) := upd_same
    generalize upd Ml14 O2 (HO.lst [V.ref l8, V.ref l9, V.ref l10, V.ref g, V.ref l11, V.ref l12, V.ref l13, V.ref l14]) = MO2 at *
    generalize upd Hl14 O2 (HO.lst [V.ref l8, V.ref l9, V.ref l10, V.ref g, V.ref l11, V.ref l12, V.ref l13, V.ref l14]) = HO2 at *
    replace hgM := hgM.same smO2
    replace smA := smA.trans smO2
    replace ov1 := all_same ov1 smO2
    replace eO1 := smO2 _ _ eO1
    replace el8 := smO2 _ _ el8
    replace dl8 := dp_same smO2 dl8
    replace el9 := smO2 _ _ el9
    replace dl9 := dp_same smO2 dl9
    replace el10 := smO2 _ _ el10
    replace el11 := smO2 _ _ el11
    replace dl11 := dp_same smO2 dl11
    replace el12 := smO2 _ _ el12
    replace dl12 := dp_same smO2 dl12
    replace el13 := smO2 _ _ el13
    replace dl13 := dp_same smO2 dl13
    replace el14 := smO2 _ _ el14
    replace dl14 := dp_same smO2 dl14
    replace ov2 := all_same ov2 smO2
    clear el8 dl8 el9 dl9 el10 el11 dl11 el12 dl12 el13 dl13 el14 dl14
    have lenxs2 : ([V.ref l8, V.ref l9, V.ref l10, V.ref g, V.ref l11, V.ref l12, V.ref l13, V.ref l14] : List V).length = 8 := rfl
    generalize ([V.ref l8, V.ref l9, V.ref l10, V.ref g, V.ref l11, V.ref l12, V.ref l13, V.ref l14] : List V) = xs2 at eO2 ov2 lenxs2
    have len3 : (xs1 ++ xs2).length = 18 := by rw [List.length_append, lenxs1, lenxs2]
    have ov3 : ∀ x ∈ xs1 ++ xs2, ∃ o, OV K C U MO2 x o := fun x hx => (List.mem_append.mp hx).elim (ov1 x) (ov2 x)
    refine ⟨O1, O2, xs1, xs2, rfl, rfl, stO2.same _ _ eO1, stO2.same _ _ eO2, by rw [lenxs1, lenxs2]; decide, fun S1 nS1 => ?_⟩
    have stS1 := st_new (o := HO.lst (xs1 ++ xs2)) stO2 nS1 (fun _ z => by cases z)
    have smS1 : Same MO2 (upd MO2 S1 (HO.lst (xs1 ++ xs2))) := Same.new (st_none stO2 nS1)
    have eS1 : upd MO2 S1 (HO.lst (xs1 ++ xs2)) S1 = some (HO.lst (xs1 ++ xs2)) := upd_same
    generalize upd MO2 S1 (HO.lst (xs1 ++ xs2)) = MS1 at *
    generalize upd HO2 S1 (HO.lst (xs1 ++ xs2)) = HS1 at *
    replace hgM := hgM.same smS1
    replace smA := smA.trans smS1
    replace ov1 := all_same ov1 smS1
    replace eO1 := smS1 _ _ eO1
    replace ov2 := all_same ov2 smS1
    replace eO2 := smS1 _ _ eO2
    replace ov3 := all_same ov3 smS1
    clear ov1 ov2 eO1 eO2
    generalize xs1 ++ xs2 = xs3 at eS1 ov3 len3
    refine ⟨_, rfl, by show 2 ≤ sizeLine; decide, fun l17 n17 => ?_⟩
    have stl17 := st_new (o := HO.tup [V.int 1, V.int 1]) stS1 n17 (fun _ z => by cases z)
    have sml17 : Same MS1 (upd MS1 l17 (HO.tup [V.int 1, V.int 1])) := Same.new (st_none stS1 n17)
    have el17 : upd MS1 l17 (HO.tup [V.int 1, V.int 1]) l17 = some (HO.tup [V.int 1, V.int 1]) := upd_same
    generalize upd MS1 l17 (HO.tup [V.int 1, V.int 1]) = Ml17 at *
    generalize upd HS1 l17 (HO.tup [V.int 1, V.int 1]) = Hl17 at *
    replace hgM := hgM.same sml17
    replace smA := smA.trans sml17
    replace ov3 := all_same ov3 sml17
    replace eS1 := sml17 _ _ eS1
    have dl17 : Dp K Ml17 (.ref l17) (PyData.tuple [PyData.int 1, PyData.int 1]) := .tup (SqT.of el17) (.cons (.int _) (.cons (.int _) .nil))
    refine ⟨by show 2 ≤ sizeLine; decide, fun l18 n18 => ?_⟩
    have stl18 := st_new (o := HO.tup [V.int 2, V.int 0]) stl17 n18 (fun _ z => by cases z)
    have sml18 : Same Ml17 (upd Ml17 l18 (HO.tup [V.int 2, V.int 0])) := Same.new (st_none stl17 n18)
    have el18 : upd Ml17 l18 (HO.tup [V.int 2, V.int 0]) l18 = some (HO.tup [V.int 2, V.int 0]) := upd_same
    generalize upd Ml17 l18 (HO.tup [V.int 2, V.int 0]) = Ml18 at *
    generalize upd Hl17 l18 (HO.tup [V.int 2, V.int 0]) = Hl18 at *
    replace hgM := hgM.same sml18
    replace smA := smA.trans sml18
    replace ov3 := all_same ov3 sml18
    replace eS1 := sml18 _ _ eS1
    replace el17 := sml18 _ _ el17
    replace dl17 := dp_same sml18 dl17
    have dl18 : Dp K Ml18 (.ref l18) (PyData.tuple [PyData.int 2, PyData.int 0]) := .tup (SqT.of el18) (.cons (.int _) (.cons (.int _) .nil))
    have ov4 : ∀ x ∈ [V.ref l17, V.ref l18], ∃ o, OV K C U Ml18 x o := by
      simp only [List.forall_mem_cons, List.not_mem_nil, false_implies, implies_true, and_true]
      refine ⟨⟨_, .inl ⟨_, rfl, .inl dl17, ⟨by first | rfl | decide +kernel, by first | decide | simp [PyData.depth, PyData.depthAll], by intro ds e; first | (cases e; decide) | cases e⟩⟩⟩, ⟨_, .inl ⟨_, rfl, .inl dl18, ⟨by first | rfl | decide +kernel, by first | decide | simp [PyData.depth, PyData.depthAll], by intro ds e; first | (cases e; decide) | cases e⟩⟩⟩⟩
    refine ⟨by show 2 ≤ sizeLine; decide, fun O3 nO3 => ?_⟩
    have stO3 := st_new (o := HO.lst [V.ref l17, V.ref l18]) stl18 nO3 (fun _ z => by cases z)
    have smO3 : Same Ml18 (upd Ml18 O3 (HO.lst [V.ref l17, V.ref l18])) := Same.new (st_none stl18 nO3)
    have eO3 : upd Ml18 O3 (HO.lst [V.ref l17, V.ref l18]) O3 = some (HO.lst [V.ref l17, V.ref l18]) := upd_same
    generalize upd Ml18 O3 (HO.lst [V.ref l17, V.ref l18]) = MO3 at *
    generalize upd Hl18 O3 (HO.lst [V.ref l17, V.ref l18]) = HO3 at *
    replace hgM := hgM.same smO3
    replace smA := smA.trans smO3
    replace ov3 := all_same ov3 smO3
    replace eS1 := smO3 _ _ eS1
    replace el17 := smO3 _ _ el17
    replace dl17 := dp_same smO3 dl17
    replace el18 := smO3 _ _ el18
    replace dl18 := dp_same smO3 dl18
    replace ov4 := all_same ov4 smO3
    clear el17 dl17 el18 dl18
    have lenxs4 : ([V.ref l17, V.ref l18] : List V).length = 2 := rfl
    generalize ([V.ref l17, V.ref l18] : List V) = xs4 at eO3 ov4 lenxs4
    refine ⟨O3, 3, xs4, rfl, rfl, stO3.same _ _ eO3, by decide, by decide, by rw [lenxs4]; decide, fun O4 nO4 => ?_⟩
    have ov5 : ∀ x ∈ (List.replicate (3 : Int).toNat xs4).flatten, ∃ o, OV K C U MO3 x o := fun x hx => by
      obtain ⟨l, hl, hx⟩ := List.mem_flatten.mp hx
      rw [(List.mem_replicate.mp hl).2] at hx
      exact ov4 x hx
    have len5 : ((List.replicate (3 : Int).toNat xs4).flatten).length = 6 := by simp [lenxs4]
    have stO4 := st_new (o := HO.lst ((List.replicate (3 : Int).toNat xs4).flatten)) stO3 nO4 (fun _ z => by cases z)
    have smO4 : Same MO3 (upd MO3 O4 (HO.lst ((List.replicate (3 : Int).toNat xs4).flatten))) := Same.new (st_none stO3 nO4)
    have eO4 : upd MO3 O4 (HO.lst ((List.replicate (3 : Int).toNat xs4).flatten)) O4 = some (HO.lst ((List.replicate (3 : Int).toNat xs4).flatten)) := upd_same
    generalize upd MO3 O4 (HO.lst ((List.replicate (3 : Int).toNat xs4).flatten)) = MO4 at *
    generalize upd HO3 O4 (HO.lst ((List.replicate (3 : Int).toNat xs4).flatten)) = HO4 at *
    replace hgM := hgM.same smO4
    replace smA := smA.trans smO4
    replace ov3 := all_same ov3 smO4
    replace eS1 := smO4 _ _ eS1
    replace ov4 := all_same ov4 smO4
    replace eO3 := smO4 _ _ eO3
    replace ov5 := all_same ov5 smO4
    clear ov4 eO3
    generalize (List.replicate (3 : Int).toNat xs4).flatten = xs5 at eO4 ov5 len5
    have len6 : (xs3 ++ xs5).length = 24 := by rw [List.length_append, len3, len5]
    have ov6 : ∀ x ∈ xs3 ++ xs5, ∃ o, OV K C U MO4 x o := fun x hx => (List.mem_append.mp hx).elim (ov3 x) (ov5 x)
    refine ⟨S1, O4, xs3, xs5, rfl, rfl, stO4.same _ _ eS1, stO4.same _ _ eO4, by rw [len3, len5]; decide, fun S2 nS2 => ?_⟩
    have stS2 := st_new (o := HO.lst (xs3 ++ xs5)) stO4 nS2 (fun _ z => by cases z)
    have smS2 : Same MO4 (upd MO4 S2 (HO.lst (xs3 ++ xs5))) := Same.new (st_none stO4 nS2)
    have eS2 : upd MO4 S2 (HO.lst (xs3 ++ xs5)) S2 = some (HO.lst (xs3 ++ xs5)) := upd_same
    generalize upd MO4 S2 (HO.lst (xs3 ++ xs5)) = MS2 at *
    generalize upd HO4 S2 (HO.lst (xs3 ++ xs5)) = HS2 at *
    replace hgM := hgM.same smS2
    replace smA := smA.trans smS2
    replace ov3 := all_same ov3 smS2
    replace eS1 := smS2 _ _ eS1
    replace ov5 := all_same ov5 smS2
    replace eO4 := smS2 _ _ eO4
    replace ov6 := all_same ov6 smS2
    clear ov3 ov5 eS1 eO4
    generalize xs3 ++ xs5 = xs6 at eS2 ov6 len6
    have neS : S2 ≠ p := fun z => by rw [z, stS2.mp] at eS2; cases eS2
    refine ⟨_, rfl, _, rfl, p, S2, xs6, rfl, stS2.die, .inl (stS2.same _ _ eS2), neS, by rw [len6]; decide, by rw [len6]; decide, fun x1 HP1 hx1 got1 => ?_⟩
    have stP1 := stS2.got got1
    refine ⟨_, rfl, _, rfl, p, S2, xs6, rfl, stP1.die, .inl (stP1.same _ _ eS2), neS, by rw [len6]; decide, by rw [len6]; decide, fun x2 HP2 hx2 got2 => ?_⟩
    have stP2 := stP1.got got2
    obtain ⟨o1, ov1⟩ := ov6 x1 hx1
    obtain ⟨o2, ov2⟩ := ov6 x2 hx2
    clear ov6 eS2 stS2 stP1 got1 got2 hx1 hx2
    refine ⟨by show 2 ≤ sizeLine; decide, fun TT nTT => ?_⟩
    have stTT := st_new (o := HO.tup [x1, x2]) stP2 nTT (fun _ z => by cases z)
    have smTT : Same MS2 (upd MS2 TT (HO.tup [x1, x2])) := Same.new (st_none stP2 nTT)
    have eTT : upd MS2 TT (HO.tup [x1, x2]) TT = some (HO.tup [x1, x2]) := upd_same
    generalize upd MS2 TT (HO.tup [x1, x2]) = MTT at *
    generalize upd HP2 TT (HO.tup [x1, x2]) = HTT at *
    replace hgM := hgM.same smTT
    replace smA := smA.trans smTT
    replace ov1 := ov1.same smTT
    replace ov2 := ov2.same smTT
    refine ⟨TT, _, rfl, SqT.of (stTT.same _ _ eTT), rfl, _, _, rfl, _, _, rfl, rfl, ?_⟩
    clear eTT
    refine ⟨_, rfl, _, _, rfl, rfl, rfl, _, _, rfl, rfl, by show 1 ≤ sizeLine; decide, fun l23 n23 => ?_⟩
    have stl23 := st_new (o := HO.tup [V.int 1]) stTT n23 (fun _ z => by cases z)
    have sml23 : Same MTT (upd MTT l23 (HO.tup [V.int 1])) := Same.new (st_none stTT n23)
    have el23 : upd MTT l23 (HO.tup [V.int 1]) l23 = some (HO.tup [V.int 1]) := upd_same
    generalize upd MTT l23 (HO.tup [V.int 1]) = Ml23 at *
    generalize upd HTT l23 (HO.tup [V.int 1]) = Hl23 at *
    replace hgM := hgM.same sml23
    replace smA := smA.trans sml23
    replace ov1 := ov1.same sml23
    replace ov2 := ov2.same sml23
    have dl23 : Dp K Ml23 (.ref l23) (PyData.tuple [PyData.int 1]) := .tup (SqT.of el23) (.cons (.int _) .nil)
    refine ⟨rfl, by show 0 ≤ sizeLine; decide, fun l24 n24 => ?_⟩
    have stl24 := st_new (o := HO.lst []) stl23 n24 (fun _ z => by cases z)
    have sml24 : Same Ml23 (upd Ml23 l24 (HO.lst [])) := Same.new (st_none stl23 n24)
    have el24 : upd Ml23 l24 (HO.lst []) l24 = some (HO.lst []) := upd_same
    generalize upd Ml23 l24 (HO.lst []) = Ml24 at *
    generalize upd Hl23 l24 (HO.lst []) = Hl24 at *
    replace hgM := hgM.same sml24
    replace smA := smA.trans sml24
    replace ov1 := ov1.same sml24
    replace ov2 := ov2.same sml24
    replace el23 := sml24 _ _ el23
    replace dl23 := dp_same sml24 dl23
    have dl24 : Dp K Ml24 (.ref l24) (PyData.list []) := .lst (SqL.of el24) .nil
    refine fun l25 n25 => ?_
    have stl25 := st_new (o := HO.dK []) stl24 n25 (fun _ z => by cases z)
    have sml25 : Same Ml24 (upd Ml24 l25 (HO.dK [])) := Same.new (st_none stl24 n25)
    have el25 : upd Ml24 l25 (HO.dK []) l25 = some (HO.dK []) := upd_same
    generalize upd Ml24 l25 (HO.dK []) = Ml25 at *
    generalize upd Hl24 l25 (HO.dK []) = Hl25 at *
    replace hgM := hgM.same sml25
    replace smA := smA.trans sml25
    replace ov1 := ov1.same sml25
    replace ov2 := ov2.same sml25
    replace el23 := sml25 _ _ el23
    replace dl23 := dp_same sml25 dl23
    replace el24 := sml25 _ _ el24
    replace dl24 := dp_same sml25 dl24
    have nv1 : ∀ x ∈ [V.int 0, V.int 5, V.int (0 - 1), V.int (B - 1), V.non, V.bl true, V.str (Str.ofString "1"), V.ref l23, V.int B, V.ref l24, V.ref l25], ∃ d, NV K Ml25 x d := by
      simp only [List.forall_mem_cons, List.not_mem_nil, false_implies, implies_true, and_true]
      refine ⟨⟨_, nv_int (by decide +kernel)⟩, ⟨_, nv_int (by decide +kernel)⟩, ⟨_, nv_int (by decide +kernel)⟩, ⟨_, nv_int B_lt1⟩, ⟨_, nv_flat .non (by decide +kernel) (by decide +kernel) (by decide +kernel) (by decide +kernel) (by decide +kernel)⟩, ⟨_, nv_flat (.bl _) (by decide +kernel) (by decide +kernel) (by decide +kernel) (by decide +kernel) (by decide +kernel)⟩, ⟨_, nv_flat (.str _) (by decide +kernel) (by decide +kernel) (by decide +kernel) (by decide +kernel) (by decide +kernel)⟩, ⟨_, nv_flat dl23 (by decide +kernel) (by decide +kernel) (by decide +kernel) (by decide +kernel) (by decide +kernel)⟩, ⟨_, nv_int B_lt⟩, ⟨_, nv_flat dl24 (by decide +kernel) (by decide +kernel) (by decide +kernel) (by decide +kernel) (by decide +kernel)⟩, ⟨_, nv_emp el25⟩⟩
    refine ⟨by show 11 ≤ sizeLine; decide, fun L1 nL1 => ?_⟩
    have stL1 := st_new (o := HO.lst [V.int 0, V.int 5, V.int (0 - 1), V.int (B - 1), V.non, V.bl true, V.str (Str.ofString "1"), V.ref l23, V.int B, V.ref l24, V.ref l25]) stl25 nL1 (fun _ z => by cases z)
    have smL1 : Same Ml25 (upd Ml25 L1 (HO.lst [V.int 0, V.int 5, V.int (0 - 1), V.int (B - 1), V.non, V.bl true, V.str (Str.ofString "1"), V.ref l23, V.int B, V.ref l24, V.ref l25])) := Same.new (st_none stl25 nL1)
    have eL1 : upd Ml25 L1 (HO.lst [V.int 0, V.int 5, V.int (0 - 1), V.int (B - 1), V.non, V.bl true, V.str (Str.ofString "1"), V.ref l23, V.int B, V.ref l24, V.ref l25]) L1 = some (HO.lst [V.int 0, V.int 5, V.int (0 - 1), V.int (B - 1), V.non, V.bl true, V.str (Str.ofString "1"), V.ref l23, V.int B, V.ref l24, V.ref l25]) := upd_same
    generalize upd Ml25 L1 (HO.lst [V.int 0, V.int 5, V.int (0 - 1), V.int (B - 1), V.non, V.bl true, V.str (Str.ofString "1"), V.ref l23, V.int B, V.ref l24, V.ref l25]) = ML1 at *
    generalize upd Hl25 L1 (HO.lst [V.int 0, V.int 5, V.int (0 - 1), V.int (B - 1), V.non, V.bl true, V.str (Str.ofString "1"), V.ref l23, V.int B, V.ref l24, V.ref l25]) = HL1 at *
    replace hgM := hgM.same smL1
    replace smA := smA.trans smL1
    replace ov1 := ov1.same smL1
    replace ov2 := ov2.same smL1
    replace el23 := smL1 _ _ el23
    replace dl23 := dp_same smL1 dl23
    replace el24 := smL1 _ _ el24
    replace dl24 := dp_same smL1 dl24
    replace el25 := smL1 _ _ el25
    replace nv1 := allN_same nv1 smL1
    clear el23 dl23 el24 dl24 el25
    have lents : ([V.int 0, V.int 5, V.int (0 - 1), V.int (B - 1), V.non, V.bl true, V.str (Str.ofString "1"), V.ref l23, V.int B, V.ref l24, V.ref l25] : List V).length = 11 := rfl
    generalize ([V.int 0, V.int 5, V.int (0 - 1), V.int (B - 1), V.non, V.bl true, V.str (Str.ofString "1"), V.ref l23, V.int B, V.ref l24, V.ref l25] : List V) = ts at eL1 nv1 lents
    have neL : L1 ≠ p := fun z => by rw [z, stL1.mp] at eL1; cases eL1
    refine ⟨p, L1, ts, rfl, stL1.die, .inl (stL1.same _ _ eL1), neL, by rw [lents]; decide, by rw [lents]; decide, fun xt HP3 hx3 got3 => ?_⟩
    have stP3 := stL1.got got3
    obtain ⟨dt, nvt⟩ := nv1 xt hx3
    clear nv1 eL1 hx3 got3 stL1 neL neS
    have pt1 := ov1.pt i c.cls kT
    have pt2 := ov2.pt i c.cls kT
    have pA : PtG K HP3 x1 (isPtO o1) := (ov1.same stP3.same).pt i c.cls kT
    have pB : PtG K HP3 x2 (isPtO o2) := (ov2.same stP3.same).pt i c.cls kT
    refine ⟨_, rfl, x1, _, rfl, pA, _, rfl, x2, _, rfl, pB, by show 2 ≤ sizeLine; decide, fun W nW => ?_⟩
    have stW := st_new (o := HO.lst [V.str (wordOf (isPtO o1)), V.str (wordOf (isPtO o2))]) stP3 nW (fun _ z => by cases z)
    have smW : Same ML1 (upd ML1 W (HO.lst [V.str (wordOf (isPtO o1)), V.str (wordOf (isPtO o2))])) := Same.new (st_none stP3 nW)
    have eW : upd ML1 W (HO.lst [V.str (wordOf (isPtO o1)), V.str (wordOf (isPtO o2))]) W = some (HO.lst [V.str (wordOf (isPtO o1)), V.str (wordOf (isPtO o2))]) := upd_same
    generalize upd ML1 W (HO.lst [V.str (wordOf (isPtO o1)), V.str (wordOf (isPtO o2))]) = MW at *
    generalize upd HP3 W (HO.lst [V.str (wordOf (isPtO o1)), V.str (wordOf (isPtO o2))]) = HW at *
    replace hgM := hgM.same smW
    replace smA := smA.trans smW
    replace ov1 := ov1.same smW
    replace ov2 := ov2.same smW
    replace nvt := nvt.same smW
    have nvw := nvt.same stW.same
    refine tIf_str (w := numW xt dt) (fun Q1 q => ?_) ?_
    · refine ⟨_, rfl, xt, _, rfl, dr_of nvw.1, _, rfl, ?_⟩
      cases hi : isIntV xt with
      | true => rw [numW_t hi] at q; exact iteT q
      | false =>
        rw [numW_f hi] at q
        have ln : (Str.ofString "number ").length = 7 := by decide
        have lv := nvw.2.1.len
        exact iteF ⟨_, rfl, _, dt, rfl, nvw.2.1.rp, Nat.le_trans nvw.2.1.dep (by decide), nvw.2.1.lenS, _, _, rfl, rfl, by rw [ln, sizeLine_eq]; omega, q⟩
    refine ⟨_, _, rfl, ?_⟩
    refine met_of (w := firstOf [wordOf (isPtO o1), wordOf (isPtO o2)]) stW.tabs (fun H1 ex tb E1 Q1 ok bad => ?_) (fun HA0 ex tb => ?_)
    · have s1 := stW.met ex tb
      obtain ⟨dg, eg⟩ := hgM.same s1.same
      have hg1 : GridAt C U H1 g t := ⟨dg, eg⟩
      have p1 := (ov1.same s1.same).pt i c.cls kT
      have p2 := (ov2.same s1.same).pt i c.cls kT
      have nv := nvt.same s1.same
      refine ⟨_, rfl, g, dg, _, rfl, eg, rfl, _, rfl, _, rfl, g, t, x1, x2, _, _, rfl, hg1, p1, p2, fun r q v H' s' => ok (by rw [r, q]; rfl) v H' (ext_same s') (tb.ext s'), fun z => bad _ _ _ (ExtN.refl _) tb ?_⟩
      rw [show firstOf [wordOf (isPtO o1), wordOf (isPtO o2)] = Str.ofString "point" from ?_]
      · exact .point _
      cases e1 : isPtO o1 with
      | false => exact first_point _
      | true =>
        rw [e1] at z
        have e2 : isPtO o2 = false := z.resolve_left (by decide)
        rw [e2]
        exact (first_empty _).trans (first_point _)
    have stA0 := stW.met ex tb
    refine ⟨by show 1 ≤ sizeLine; decide, fun Lt nLt => ?_⟩
    have nLM := st_none stA0 nLt
    have neLt := die_new stA0.die nLt
    have stB0 := St.over (o := HO.lst [V.str (firstOf [wordOf (isPtO o1), wordOf (isPtO o2)])]) stA0 nLM neLt (.inl nLt)
    have eL0 : upd HA0 Lt (HO.lst [V.str (firstOf [wordOf (isPtO o1), wordOf (isPtO o2)])]) Lt = some (HO.lst [V.str (firstOf [wordOf (isPtO o1), wordOf (isPtO o2)])]) := upd_same
    generalize upd HA0 Lt (HO.lst [V.str (firstOf [wordOf (isPtO o1), wordOf (isPtO o2)])]) = HB0 at *
    refine ⟨_, rfl, .inl ⟨rfl, _, SqL.of eL0⟩, ?_⟩
    refine met_of (w := wordOf (isPtO o1)) stB0.tabs (fun H1 ex tb E1 Q1 ok bad => ?_) (fun HA1 ex tb => ?_)
    · have s1 := stB0.met ex tb
      obtain ⟨dg, eg⟩ := hgM.same s1.same
      have hg1 : GridAt C U H1 g t := ⟨dg, eg⟩
      have p1 := (ov1.same s1.same).pt i c.cls kT
      have p2 := (ov2.same s1.same).pt i c.cls kT
      have nv := nvt.same s1.same
      exact ⟨_, rfl, g, dg, _, rfl, eg, rfl, _, rfl, g, t, x1, _, rfl, hg1, p1, fun r v H' s' => ok (by rw [r]; rfl) v H' (ext_same s') (tb.ext s'), fun r => bad _ _ _ (ExtN.refl _) tb (by rw [r]; exact .point _)⟩
    have stA1 := stB0.met ex tb
    have eA1 := ex _ _ eL0 (fun ps z => by cases z)
    refine ⟨Lt, _, _, rfl, rfl, eA1, by show 1 < sizeLine; decide, ?_⟩
    have stB1 := St.over (o := HO.lst ([V.str (firstOf [wordOf (isPtO o1), wordOf (isPtO o2)])] ++ [V.str (wordOf (isPtO o1))])) stA1 nLM neLt (.inr ⟨_, eA1⟩)
    have eL1 : upd HA1 Lt (HO.lst ([V.str (firstOf [wordOf (isPtO o1), wordOf (isPtO o2)])] ++ [V.str (wordOf (isPtO o1))])) Lt = some (HO.lst [V.str (firstOf [wordOf (isPtO o1), wordOf (isPtO o2)]), V.str (wordOf (isPtO o1))]) := upd_same
    generalize upd HA1 Lt (HO.lst ([V.str (firstOf [wordOf (isPtO o1), wordOf (isPtO o2)])] ++ [V.str (wordOf (isPtO o1))])) = HB1 at *
    refine ⟨_, rfl, .inl ⟨rfl, _, SqL.of eL1⟩, ?_⟩
    refine met_of (w := wordOf (isPtO o1)) stB1.tabs (fun H1 ex tb E1 Q1 ok bad => ?_) (fun HA2 ex tb => ?_)
    · have s1 := stB1.met ex tb
      obtain ⟨dg, eg⟩ := hgM.same s1.same
      have hg1 : GridAt C U H1 g t := ⟨dg, eg⟩
      have p1 := (ov1.same s1.same).pt i c.cls kT
      have p2 := (ov2.same s1.same).pt i c.cls kT
      have nv := nvt.same s1.same
      exact ⟨_, rfl, g, dg, _, rfl, eg, rfl, _, rfl, g, t, x1, _, rfl, hg1, p1, fun r v H' s' => ok (by rw [r]; rfl) v H' (ext_same s') (tb.ext s'), fun r => bad _ _ _ (ExtN.refl _) tb (by rw [r]; exact .point _)⟩
    have stA2 := stB1.met ex tb
    have eA2 := ex _ _ eL1 (fun ps z => by cases z)
    refine ⟨Lt, _, _, rfl, rfl, eA2, by show 2 < sizeLine; decide, ?_⟩
    have stB2 := St.over (o := HO.lst ([V.str (firstOf [wordOf (isPtO o1), wordOf (isPtO o2)]), V.str (wordOf (isPtO o1))] ++ [V.str (wordOf (isPtO o1))])) stA2 nLM neLt (.inr ⟨_, eA2⟩)
    have eL2 : upd HA2 Lt (HO.lst ([V.str (firstOf [wordOf (isPtO o1), wordOf (isPtO o2)]), V.str (wordOf (isPtO o1))] ++ [V.str (wordOf (isPtO o1))])) Lt = some (HO.lst [V.str (firstOf [wordOf (isPtO o1), wordOf (isPtO o2)]), V.str (wordOf (isPtO o1)), V.str (wordOf (isPtO o1))]) := upd_same
    generalize upd HA2 Lt (HO.lst ([V.str (firstOf [wordOf (isPtO o1), wordOf (isPtO o2)]), V.str (wordOf (isPtO o1))] ++ [V.str (wordOf (isPtO o1))])) = HB2 at *
    refine ⟨_, rfl, .inl ⟨rfl, _, SqL.of eL2⟩, ?_⟩
    refine met_of (w := wordOf (isPtO o1)) stB2.tabs (fun H1 ex tb E1 Q1 ok bad => ?_) (fun HA3 ex tb => ?_)
    · have s1 := stB2.met ex tb
      obtain ⟨dg, eg⟩ := hgM.same s1.same
      have hg1 : GridAt C U H1 g t := ⟨dg, eg⟩
      have p1 := (ov1.same s1.same).pt i c.cls kT
      have p2 := (ov2.same s1.same).pt i c.cls kT
      have nv := nvt.same s1.same
      exact ⟨_, rfl, g, dg, _, rfl, eg, rfl, _, rfl, g, t, x1, _, rfl, hg1, p1, fun r v H' s' => ok (by rw [r]; rfl) v H' (ext_same s') (tb.ext s'), fun r => bad _ _ _ (ExtN.refl _) tb (by rw [r]; exact .point _)⟩
    have stA3 := stB2.met ex tb
    have eA3 := ex _ _ eL2 (fun ps z => by cases z)
    refine ⟨Lt, _, _, rfl, rfl, eA3, by show 3 < sizeLine; decide, ?_⟩
    have stB3 := St.over (o := HO.lst ([V.str (firstOf [wordOf (isPtO o1), wordOf (isPtO o2)]), V.str (wordOf (isPtO o1)), V.str (wordOf (isPtO o1))] ++ [V.str (wordOf (isPtO o1))])) stA3 nLM neLt (.inr ⟨_, eA3⟩)
    have eL3 : upd HA3 Lt (HO.lst ([V.str (firstOf [wordOf (isPtO o1), wordOf (isPtO o2)]), V.str (wordOf (isPtO o1)), V.str (wordOf (isPtO o1))] ++ [V.str (wordOf (isPtO o1))])) Lt = some (HO.lst [V.str (firstOf [wordOf (isPtO o1), wordOf (isPtO o2)]), V.str (wordOf (isPtO o1)), V.str (wordOf (isPtO o1)), V.str (wordOf (isPtO o1))]) := upd_same
    generalize upd HA3 Lt (HO.lst ([V.str (firstOf [wordOf (isPtO o1), wordOf (isPtO o2)]), V.str (wordOf (isPtO o1)), V.str (wordOf (isPtO o1))] ++ [V.str (wordOf (isPtO o1))])) = HB3 at *
    refine ⟨_, rfl, .inl ⟨rfl, _, SqL.of eL3⟩, ?_⟩
    refine met_of (w := firstOf [wordOf (isPtO o1), numW xt dt]) stB3.tabs (fun H1 ex tb E1 Q1 ok bad => ?_) (fun HA4 ex tb => ?_)
    · have s1 := stB3.met ex tb
      obtain ⟨dg, eg⟩ := hgM.same s1.same
      have hg1 : GridAt C U H1 g t := ⟨dg, eg⟩
      have p1 := (ov1.same s1.same).pt i c.cls kT
      have p2 := (ov2.same s1.same).pt i c.cls kT
      have nv := nvt.same s1.same
      refine ⟨_, rfl, g, dg, _, rfl, eg, rfl, _, rfl, _, rfl, g, t, x1, xt, _, _, rfl, hg1, p1, dr_of nv.1, fun r z v H' s' => ok (by rw [r, word_t, numW_t z]; rfl) v H' (ext_same s') (tb.ext s'), fun r => bad _ _ _ (ExtN.refl _) tb (by rw [r, word_f, first_point]; exact .point _), fun r z d nd => bad _ _ _ (ext_new nd) (tb.ext (Same.new nd)) ?_⟩
      rw [r, word_t, first_empty, first1, numW_f z]
      exact .num upd_same (nv.2.1.same (Same.new nd))
    have stA4 := stB3.met ex tb
    have eA4 := ex _ _ eL3 (fun ps z => by cases z)
    refine ⟨Lt, _, _, rfl, rfl, eA4, by show 4 < sizeLine; decide, ?_⟩
    have stB4 := St.over (o := HO.lst ([V.str (firstOf [wordOf (isPtO o1), wordOf (isPtO o2)]), V.str (wordOf (isPtO o1)), V.str (wordOf (isPtO o1)), V.str (wordOf (isPtO o1))] ++ [V.str (firstOf [wordOf (isPtO o1), numW xt dt])])) stA4 nLM neLt (.inr ⟨_, eA4⟩)
    have eL4 : upd HA4 Lt (HO.lst ([V.str (firstOf [wordOf (isPtO o1), wordOf (isPtO o2)]), V.str (wordOf (isPtO o1)), V.str (wordOf (isPtO o1)), V.str (wordOf (isPtO o1))] ++ [V.str (firstOf [wordOf (isPtO o1), numW xt dt])])) Lt = some (HO.lst [V.str (firstOf [wordOf (isPtO o1), wordOf (isPtO o2)]), V.str (wordOf (isPtO o1)), V.str (wordOf (isPtO o1)), V.str (wordOf (isPtO o1)), V.str (firstOf [wordOf (isPtO o1), numW xt dt])]) := upd_same
    generalize upd HA4 Lt (HO.lst ([V.str (firstOf [wordOf (isPtO o1), wordOf (isPtO o2)]), V.str (wordOf (isPtO o1)), V.str (wordOf (isPtO o1)), V.str (wordOf (isPtO o1))] ++ [V.str (firstOf [wordOf (isPtO o1), numW xt dt])])) = HB4 at *
    refine ⟨_, rfl, .inl ⟨rfl, _, SqL.of eL4⟩, ?_⟩
    refine met_of (w := numW xt dt) stB4.tabs (fun H1 ex tb E1 Q1 ok bad => ?_) (fun HA5 ex tb => ?_)
    · have s1 := stB4.met ex tb
      obtain ⟨dg, eg⟩ := hgM.same s1.same
      have hg1 : GridAt C U H1 g t := ⟨dg, eg⟩
      have p1 := (ov1.same s1.same).pt i c.cls kT
      have p2 := (ov2.same s1.same).pt i c.cls kT
      have nv := nvt.same s1.same
      refine ⟨_, rfl, g, dg, _, rfl, eg, rfl, _, rfl, g, t, xt, _, rfl, hg1, dr_of nv.1, fun z v H' s' => ok (numW_t z) v H' (ext_same s') (tb.ext s'), fun z d nd => bad _ _ _ (ext_new nd) (tb.ext (Same.new nd)) ?_⟩
      rw [numW_f z]
      exact .num upd_same (nv.2.1.same (Same.new nd))
    have stA5 := stB4.met ex tb
    have eA5 := ex _ _ eL4 (fun ps z => by cases z)
    refine ⟨Lt, _, _, rfl, rfl, eA5, by show 5 < sizeLine; decide, ?_⟩
    have stB5 := St.over (o := HO.lst ([V.str (firstOf [wordOf (isPtO o1), wordOf (isPtO o2)]), V.str (wordOf (isPtO o1)), V.str (wordOf (isPtO o1)), V.str (wordOf (isPtO o1)), V.str (firstOf [wordOf (isPtO o1), numW xt dt])] ++ [V.str (numW xt dt)])) stA5 nLM neLt (.inr ⟨_, eA5⟩)
    have eL5 : upd HA5 Lt (HO.lst ([V.str (firstOf [wordOf (isPtO o1), wordOf (isPtO o2)]), V.str (wordOf (isPtO o1)), V.str (wordOf (isPtO o1)), V.str (wordOf (isPtO o1)), V.str (firstOf [wordOf (isPtO o1), numW xt dt])] ++ [V.str (numW xt dt)])) Lt = some (HO.lst [V.str (firstOf [wordOf (isPtO o1), wordOf (isPtO o2)]), V.str (wordOf (isPtO o1)), V.str (wordOf (isPtO o1)), V.str (wordOf (isPtO o1)), V.str (firstOf [wordOf (isPtO o1), numW xt dt]), V.str (numW xt dt)]) := upd_same
    generalize upd HA5 Lt (HO.lst ([V.str (firstOf [wordOf (isPtO o1), wordOf (isPtO o2)]), V.str (wordOf (isPtO o1)), V.str (wordOf (isPtO o1)), V.str (wordOf (isPtO o1)), V.str (firstOf [wordOf (isPtO o1), numW xt dt])] ++ [V.str (numW xt dt)])) = HB5 at *
    refine ⟨_, rfl, .inl ⟨rfl, _, SqL.of eL5⟩, ?_⟩
    refine met_of (w := firstOf (qW o1 o2)) stB5.tabs (fun H1 ex tb E1 Q1 ok bad => ?_) (fun HA6 ex tb => ?_)
    · have s1 := stB5.met ex tb
      obtain ⟨dg, eg⟩ := hgM.same s1.same
      have hg1 : GridAt C U H1 g t := ⟨dg, eg⟩
      have p1 := (ov1.same s1.same).pt i c.cls kT
      have p2 := (ov2.same s1.same).pt i c.cls kT
      have nv := nvt.same s1.same
      have px := (ov2.same s1.same).ptx i c.cls kT
      refine ⟨_, rfl, g, dg, _, rfl, eg, rfl, _, rfl, _, rfl, g, t, x1, x2, _, _, rfl, hg1, p1, px, fun r v e n v H' s' => ok (qW_ok r e n) v H' (ext_same s') (tb.ext s'), fun z => bad _ _ _ (ExtN.refl _) tb (by rw [qW_bad z]; exact .point _), fun r e d H' s' nd => bad _ _ _ ((ext_same s').trans (ext_new nd)) (tb.ext (s'.trans (Same.new nd))) ?_⟩
      rw [qW_quo r e, ← quo_shown]
      rw [e] at px
      obtain ⟨a2, rfl, pa2, _⟩ := px
      exact .quo upd_same (pt_sh ((pa2.same s').same (Same.new nd)) (by decide) (by decide))
    have stA6 := stB5.met ex tb
    have eA6 := ex _ _ eL5 (fun ps z => by cases z)
    refine ⟨Lt, _, _, rfl, rfl, eA6, by show 6 < sizeLine; decide, ?_⟩
    have stB6 := St.over (o := HO.lst ([V.str (firstOf [wordOf (isPtO o1), wordOf (isPtO o2)]), V.str (wordOf (isPtO o1)), V.str (wordOf (isPtO o1)), V.str (wordOf (isPtO o1)), V.str (firstOf [wordOf (isPtO o1), numW xt dt]), V.str (numW xt dt)] ++ [V.str (firstOf (qW o1 o2))])) stA6 nLM neLt (.inr ⟨_, eA6⟩)
    have eL6 : upd HA6 Lt (HO.lst ([V.str (firstOf [wordOf (isPtO o1), wordOf (isPtO o2)]), V.str (wordOf (isPtO o1)), V.str (wordOf (isPtO o1)), V.str (wordOf (isPtO o1)), V.str (firstOf [wordOf (isPtO o1), numW xt dt]), V.str (numW xt dt)] ++ [V.str (firstOf (qW o1 o2))])) Lt = some (HO.lst [V.str (firstOf [wordOf (isPtO o1), wordOf (isPtO o2)]), V.str (wordOf (isPtO o1)), V.str (wordOf (isPtO o1)), V.str (wordOf (isPtO o1)), V.str (firstOf [wordOf (isPtO o1), numW xt dt]), V.str (numW xt dt), V.str (firstOf (qW o1 o2))]) := upd_same
    generalize upd HA6 Lt (HO.lst ([V.str (firstOf [wordOf (isPtO o1), wordOf (isPtO o2)]), V.str (wordOf (isPtO o1)), V.str (wordOf (isPtO o1)), V.str (wordOf (isPtO o1)), V.str (firstOf [wordOf (isPtO o1), numW xt dt]), V.str (numW xt dt)] ++ [V.str (firstOf (qW o1 o2))])) = HB6 at *
    have okW : ∀ w ∈ [wordOf (isPtO o1), wordOf (isPtO o2)], PyData.strOk w = true := by
      simp only [List.forall_mem_cons, List.not_mem_nil, false_implies, implies_true, and_true]
      exact ⟨wordOf_ok _, wordOf_ok _⟩
    have okN : ∀ w ∈ [wordOf (isPtO o1), numW xt dt], PyData.strOk w = true := by
      simp only [List.forall_mem_cons, List.not_mem_nil, false_implies, implies_true, and_true]
      exact ⟨wordOf_ok _, numW_ok nvt⟩
    have okQ : ∀ w ∈ qW o1 o2, PyData.strOk w = true := fun w hw => by
      rcases List.mem_append.mp hw with h | h
      · exact okW w h
      · cases hz : is0 o2 with
        | true => rw [hz] at h; rcases List.mem_singleton.mp h with rfl; decide +kernel
        | false => rw [hz] at h; cases h
    refine ⟨_, rfl, W, [wordOf (isPtO o1), wordOf (isPtO o2)], rfl, SqL.of (stB6.same _ _ eW), by show 2 ≤ 10; decide, okW, fun HF1 sF1 => ?_⟩
    have stF1 := stB6.ext sF1
    have eF1 := sF1 _ _ eL6
    refine ⟨_, rfl, W, _, _, _, rfl, rfl, SqL.of (stF1.same _ _ eW), atI_nat (j := 0) rfl, _, rfl, W, _, _, _, rfl, rfl, SqL.of (stF1.same _ _ eW), atI_nat (j := 0) rfl, _, rfl, W, _, _, _, rfl, rfl, SqL.of (stF1.same _ _ eW), atI_nat (j := 0) rfl, _, rfl, W, _, _, _, rfl, rfl, SqL.of (stF1.same _ _ eW), atI_nat (j := 0) rfl, _, rfl, by show 2 ≤ sizeLine; decide, fun LF nLF => ?_⟩
    have sLF := Same.new (o := HO.lst [V.str (wordOf (isPtO o1)), V.str (numW xt dt)]) nLF
    refine ⟨LF, [wordOf (isPtO o1), numW xt dt], rfl, SqL.of upd_same, by show 2 ≤ 10; decide, okN, fun HF2 sF2 => ?_⟩
    have stF2 := (stF1.ext sLF).ext sF2
    have eF2 := sF2 _ _ (sLF _ _ eF1)
    refine ⟨_, rfl, by show 6 ≤ sizeLine; decide, fun LD nLD => ?_⟩
    have sLD := Same.new (o := HO.lst [V.str (firstOf [wordOf (isPtO o1), wordOf (isPtO o2)]), V.str (wordOf (isPtO o1)), V.str (wordOf (isPtO o1)), V.str (wordOf (isPtO o1)), V.str (firstOf [wordOf (isPtO o1), numW xt dt]), V.str (numW xt dt)]) nLD
    have eD : upd HF2 LD (HO.lst [V.str (firstOf [wordOf (isPtO o1), wordOf (isPtO o2)]), V.str (wordOf (isPtO o1)), V.str (wordOf (isPtO o1)), V.str (wordOf (isPtO o1)), V.str (firstOf [wordOf (isPtO o1), numW xt dt]), V.str (numW xt dt)]) LD = some (HO.lst [V.str (firstOf [wordOf (isPtO o1), wordOf (isPtO o2)]), V.str (wordOf (isPtO o1)), V.str (wordOf (isPtO o1)), V.str (wordOf (isPtO o1)), V.str (firstOf [wordOf (isPtO o1), numW xt dt]), V.str (numW xt dt)]) := upd_same
    have stD := stF2.ext sLD
    have eLD := sLD _ _ eF2
    generalize upd HF2 LD (HO.lst [V.str (firstOf [wordOf (isPtO o1), wordOf (isPtO o2)]), V.str (wordOf (isPtO o1)), V.str (wordOf (isPtO o1)), V.str (wordOf (isPtO o1)), V.str (firstOf [wordOf (isPtO o1), numW xt dt]), V.str (numW xt dt)]) = HD at *
    refine ⟨_, rfl, _, rfl, _, rfl, by show 1 ≤ sizeLine; decide, fun LQ nLQ => ?_⟩
    have sLQ := Same.new (o := HO.lst [V.str (Str.ofString "quotient (0, 0)")]) nLQ
    have eQ : upd HD LQ (HO.lst [V.str (Str.ofString "quotient (0, 0)")]) LQ = some (HO.lst [V.str (Str.ofString "quotient (0, 0)")]) := upd_same
    have stQ := stD.ext sLQ
    have eD1 := sLQ _ _ eD
    have eL1 := sLQ _ _ eLD
    generalize upd HD LQ (HO.lst [V.str (Str.ofString "quotient (0, 0)")]) = HQ at *
    refine ⟨_, rfl, by show 2 ≤ sizeLine; decide, fun TZ nTZ => ?_⟩
    have sTZ := Same.new (o := HO.tup [V.int 0, V.int 0]) nTZ
    have pz : PAt K (upd HQ TZ (HO.tup [V.int 0, V.int 0])) TZ (0, 0) := PAt.of upd_same
    have stZ := stQ.ext sTZ
    have eQ2 := sTZ _ _ eQ
    have eD2 := sTZ _ _ eD1
    have eL2 := sTZ _ _ eL1
    generalize upd HQ TZ (HO.tup [V.int 0, V.int 0]) = HZ at *
    have rq : (List.replicate (if is0 o2 = true then (1 : Int) else 0).toNat [V.str (Str.ofString "quotient (0, 0)")]).flatten = (if is0 o2 = true then [Str.ofString "quotient (0, 0)"] else []).map V.str := by cases is0 o2 <;> rfl
    refine ⟨o2, TZ, ov2.same stZ.same, rfl, pz, .inr ⟨_, rfl, LQ, _, _, rfl, rfl, eQ2, by split <;> decide, by split <;> decide, by cases is0 o2 <;> decide, fun LR nLR => ?_⟩⟩
    rw [rq]
    have sLR := Same.new (o := HO.lst ((if is0 o2 = true then [Str.ofString "quotient (0, 0)"] else []).map V.str)) nLR
    have eR : upd HZ LR (HO.lst ((if is0 o2 = true then [Str.ofString "quotient (0, 0)"] else []).map V.str)) LR = some (HO.lst ((if is0 o2 = true then [Str.ofString "quotient (0, 0)"] else []).map V.str)) := upd_same
    have stR := stZ.ext sLR
    have eD3 := sLR _ _ eD2
    have eL3 := sLR _ _ eL2
    generalize upd HZ LR (HO.lst ((if is0 o2 = true then [Str.ofString "quotient (0, 0)"] else []).map V.str)) = HR at *
    refine ⟨W, LR, _, _, rfl, rfl, stR.same _ _ eW, eR, by cases is0 o2 <;> first | (show 2 + 0 ≤ sizeLine; decide) | (show 2 + 1 ≤ sizeLine; decide), fun LX nLX => ?_⟩
    have sLX := Same.new (o := HO.lst ((qW o1 o2).map V.str)) nLX
    refine ⟨LX, qW o1 o2, rfl, SqL.of (by rw [upd_same]; unfold qW; rw [List.map_append]; rfl), by unfold qW; cases is0 o2 <;> first | (show 2 ≤ 10; decide) | (show 3 ≤ 10; decide), okQ, fun HF3 sF3 => ?_⟩
    have stX := (stR.ext sLX).ext sF3
    have eD4 := sF3 _ _ (sLX _ _ eD3)
    have eL4 := sF3 _ _ (sLX _ _ eL3)
    refine ⟨by show 1 ≤ sizeLine; decide, fun LY nLY => ?_⟩
    have sLY := Same.new (o := HO.lst [V.str (firstOf (qW o1 o2))]) nLY
    have eY : upd HF3 LY (HO.lst [V.str (firstOf (qW o1 o2))]) LY = some (HO.lst [V.str (firstOf (qW o1 o2))]) := upd_same
    have stY := stX.ext sLY
    have eD5 := sLY _ _ eD4
    have eL5 := sLY _ _ eL4
    generalize upd HF3 LY (HO.lst [V.str (firstOf (qW o1 o2))]) = HY at *
    refine ⟨LD, LY, _, _, rfl, rfl, eD5, eY, by show 6 + 1 ≤ sizeLine; decide, fun LZ nLZ => ?_⟩
    have sLZ := Same.new (o := HO.lst ([firstOf [wordOf (isPtO o1), wordOf (isPtO o2)], wordOf (isPtO o1), wordOf (isPtO o1), wordOf (isPtO o1), firstOf [wordOf (isPtO o1), numW xt dt], numW xt dt, firstOf (qW o1 o2)].map V.str)) nLZ
    have okT : ∀ w ∈ [firstOf [wordOf (isPtO o1), wordOf (isPtO o2)], wordOf (isPtO o1), wordOf (isPtO o1), wordOf (isPtO o1), firstOf [wordOf (isPtO o1), numW xt dt], numW xt dt, firstOf (qW o1 o2)], PyData.strOk w = true := by
      have fo : ∀ ws : List Str, (∀ w ∈ ws, PyData.strOk w = true) → PyData.strOk (firstOf ws) = true := fun ws => by
        induction ws with
        | nil => intro _; decide +kernel
        | cons w r ih =>
          intro h
          show PyData.strOk (if w = Str.ofString "" then firstOf r else w) = true
          split
          · exact ih (fun v hv => h v (List.mem_cons_of_mem _ hv))
          · exact h w (List.mem_cons_self ..)
      simp only [List.forall_mem_cons, List.not_mem_nil, false_implies, implies_true, and_true]
      exact ⟨fo _ okW, wordOf_ok _, wordOf_ok _, wordOf_ok _, fo _ okN, numW_ok nvt, fo _ okQ⟩
    refine ⟨.list ([firstOf [wordOf (isPtO o1), wordOf (isPtO o2)], wordOf (isPtO o1), wordOf (isPtO o1), wordOf (isPtO o1), firstOf [wordOf (isPtO o1), numW xt dt], numW xt dt, firstOf (qW o1 o2)].map PyData.str), .list ([firstOf [wordOf (isPtO o1), wordOf (isPtO o2)], wordOf (isPtO o1), wordOf (isPtO o1), wordOf (isPtO o1), firstOf [wordOf (isPtO o1), numW xt dt], numW xt dt, firstOf (qW o1 o2)].map PyData.str), .lst (SqL.of (sLZ _ _ eL5)) (dp_strs (ys := [firstOf [wordOf (isPtO o1), wordOf (isPtO o2)], wordOf (isPtO o1), wordOf (isPtO o1), wordOf (isPtO o1), firstOf [wordOf (isPtO o1), numW xt dt], numW xt dt, firstOf (qW o1 o2)])), .lst (SqL.of upd_same) (dp_strs (ys := [firstOf [wordOf (isPtO o1), wordOf (isPtO o2)], wordOf (isPtO o1), wordOf (isPtO o1), wordOf (isPtO o1), firstOf [wordOf (isPtO o1), numW xt dt], numW xt dt, firstOf (qW o1 o2)])), strs_lay okT, strs_lay okT, ?_⟩
    rw [strs_refl]
    exact k _ ((stY.ext sLZ).done smA)
end
end K07
namespace K07
open PySem PySem.Spec PyProof.Rows L2 GL PySem.GLE LamX
abbrev s__law_ends_right : Stmt := topS 44
abbrev N__law_ends_right : List Str := ["_law_dice_here", "_law_grid", "_law_some", "_law_told", "_law_name", "_law_odd"]
theorem sc__law_ends_right : FnScope N__law_ends_right ["_law_dice_here", "_law_grid"] (defScope s__law_ends_right) := ⟨rfl, rfl, rfl, by decide +kernel, rfl, by decide +kernel, by decide +kernel⟩
section
variable {P : Program} {w : World} {K : PySem.W.Frag} {mg : Str → Option Value} {base : Heap}
variable {aG dU C CV CM : Addr} {U : Bool → Addr} {us : Bool → List Addr} {cs : Cs}
variable {cT : List (Addr × Str)} {cA PA : Addr}
theorem h_ends (T : Txt K mg aG dU C CV CM cs) (c : GCls K C) (i : GIs K C) (vi : VIs K C CV CM) (vc : ∀ D, IsV CV CM D → VCls K D) (kT : PySem.W.kitOne K (.ref C) (.type "tuple") = some false) (kVG : PySem.W.kitOne K (.ref CV) (.ref C) = some false) (MD : Df K mg "_law_met" s__law_met) (MT : MetT K mg cs) (dig : PySem.W.nsIn K cStatics "sys.int_max_str_digits" = some none)
    (TB : TabB base mg cA PA) (inT : (PA, (("_law_ends_right" : Str) ++ ".<locals>.") ++ "<lambda>") ∈ cT) (oneT : ∀ p ∈ cT, p.1 = PA → p.2 = (("_law_ends_right" : Str) ++ ".<locals>.") ++ "<lambda>")
    (h_law_limit : Has P w K mg base CX0 "_law_limit" 1 [] spLimit) (h_law_pick : Has P w K mg base CX0 "_law_pick" 2 ["_law_dice_here", "_law_items"] spPick)
    (h_law_point_word : Has P w K mg base CX0 "_law_point_word" 3 ["_law_value"] (spWord K))
    (hm_alternate : HasM P w K mg base (L2.CX P w) C "alternate" 3 ["self", "ends", "others"] (spXA K cs C U))
    (hGrid : HasGX P w K mg base (L2.CX P w) "Grid" C 3 ["self", "name"] (spInitX K C U cs)) (hVector : HasGX P w K mg base (L2.CX P w) "Vector" CV 4 ["self", "grid", "point"] (spVInitX K C U CV cs)) (D : Dl K mg "_law_ends_right" s__law_ends_right cA) :
    Has P w K mg base CX0 "_law_ends_right" 17 ["_law_dice_here", "_law_grid"] (spPart K C U cT) := by
  have c_alternate := c.cls
  refine D.hasL sc__law_ends_right (fun vs H Q E h => ?_) (fun kV doc pm an cdv ct us hl => match us, hl with | [_, _], _ => rfl) (fun f A outer s H vs Q E gd hr h => ?_)
  · obtain ⟨p, g, t, rfl, _⟩ := h
    rfl
  · obtain ⟨p, g, t, rfl, die, hg, tabs, k⟩ := h
    have hu := hr.units
    refine ⟨_, (pss_cons
 (ps_set (i := 2) sc__law_ends_right.nd rfl (Or.inl rfl) (pe_lst (pa_cons pe_non (pa_cons pe_int (pa_cons (pe_tup pa_nil) (pa_cons (pe_tup (pa_cons pe_int pa_nil)) (pa_cons (pe_lst (pa_cons pe_int (pa_cons pe_int pa_nil))) (pa_cons (pe_tup (pa_cons pe_int (pa_cons pe_int (pa_cons pe_int pa_nil)))) (pa_cons (pe_tup (pa_cons pe_int (pa_cons pe_non pa_nil))) (pa_cons (pe_tup (pa_cons pe_bl (pa_cons pe_int pa_nil))) (pa_cons (pe_tup (pa_cons pe_str (pa_cons pe_int pa_nil))) (pa_cons (pe_tup (pa_cons pe_int (pa_cons (pe_call0H h_law_limit gd (hr.mono (by decide)) pass0) pa_nil))) (pa_cons pe_dnewK pa_nil)))))))))))))
 (pss_cons
 (ps_set (i := 5) sc__law_ends_right.nd rfl (Or.inr rfl) (pe_callH h_law_pick gd (hr.mono (by decide)) pass0 (pa_cons (pv 0) (pa_cons (pv 2) pa_nil))))
 (pss_cons
 (ps_set (i := 4) sc__law_ends_right.nd rfl (Or.inr rfl) (pe_callH h_law_pick gd (hr.mono (by decide)) pass0 (pa_cons (pv 0) (pa_cons (pe_lst (pa_cons pe_non (pa_cons pe_int (pa_cons pe_str (pa_cons pe_str (pa_cons (pe_tup (pa_cons pe_str pa_nil)) (pa_cons (pe_lst (pa_cons pe_str pa_nil)) (pa_cons pe_dnewK (pa_cons pe_bl (pa_cons (pv 1) (pa_cons pe_str (pa_cons pe_str pa_nil)))))))))))) pa_nil))))
 (pss_cons
 (ps_set (i := 3) sc__law_ends_right.nd rfl (Or.inl rfl) (pe_lst (pa_cons (pe_met (k := 13) MD MT dig (by exact rfl) TB rfl inT oneT gd (hr.mono (by decide)) (show LamS (defScope s__law_ends_right) _ from lamS_by (by decide +kernel)) rfl (fun _ _ _ _ _ => rfl) (fun A outer s H E f c' gd hr => (pe_methH (pv 1) c_alternate hm_alternate gd (hr.mono (by decide)) (passes_call (takes_of rfl rfl rfl rfl) (fun _ _ _ _ e => e)) (pa_cons (pv 5) (pa_cons (pe_tup (pa_cons pe_int (pa_cons pe_int pa_nil))) pa_nil))))) pa_nil)))
 (pss_cons
 (ps_expr (pe_bm PySem.F.plainAttrs_list PySem.F.slot_list_append PySem.F.type_list_append mt_append (pv 3) (pa_cons (pe_met (k := 13) MD MT dig (by exact rfl) TB rfl inT oneT gd (hr.mono (by decide)) (show LamS (defScope s__law_ends_right) _ from lamS_by (by decide +kernel)) rfl (fun _ _ _ _ _ => rfl) (fun A outer s H E f c' gd hr => (pe_methH (pv 1) c_alternate hm_alternate gd (hr.mono (by decide)) (passes_call (takes_of rfl rfl rfl rfl) (fun _ _ _ _ e => e)) (pa_cons (pe_tup (pa_cons pe_int (pa_cons pe_int pa_nil))) (pa_cons (pv 5) pa_nil))))) pa_nil)))
 (pss_cons
 (ps_expr (pe_bm PySem.F.plainAttrs_list PySem.F.slot_list_append PySem.F.type_list_append mt_append (pv 3) (pa_cons (pe_met (k := 13) MD MT dig (by exact rfl) TB rfl inT oneT gd (hr.mono (by decide)) (show LamS (defScope s__law_ends_right) _ from lamS_by (by decide +kernel)) rfl (fun _ _ _ _ _ => rfl) (fun A outer s H E f c' gd hr => (pe_methH (pv 1) c_alternate hm_alternate gd (hr.mono (by decide)) (passes_call (takes_of rfl rfl rfl rfl) (fun _ _ _ _ e => e)) (pa_cons (pe_tup (pa_cons pe_int (pa_cons (pe_op op_sub (pe_call0H h_law_limit gd (hr.mono (by decide)) pass0) pe_int) pa_nil))) (pa_cons (pe_tup (pa_cons pe_int (pa_cons pe_int pa_nil))) pa_nil))))) pa_nil)))
 (pss_cons
 (ps_expr (pe_bm PySem.F.plainAttrs_list PySem.F.slot_list_append PySem.F.type_list_append mt_append (pv 3) (pa_cons (pe_met (k := 13) MD MT dig (by exact rfl) TB rfl inT oneT gd (hr.mono (by decide)) (show LamS (defScope s__law_ends_right) _ from lamS_by (by decide +kernel)) rfl (fun _ _ _ _ _ => rfl) (fun A outer s H E f c' gd hr => (pe_makeGX hGrid gd (hr.mono (by decide)) (passes_call (takes_of rfl rfl rfl rfl) (fun _ _ _ _ e => e)) (pa_cons (pv 4) pa_nil)))) pa_nil)))
 (pss_cons
 (ps_expr (pe_bm PySem.F.plainAttrs_list PySem.F.slot_list_append PySem.F.type_list_append mt_append (pv 3) (pa_cons (pe_met (k := 13) MD MT dig (by exact rfl) TB rfl inT oneT gd (hr.mono (by decide)) (show LamS (defScope s__law_ends_right) _ from lamS_by (by decide +kernel)) rfl (fun _ _ _ _ _ => rfl) (fun A outer s H E f c' gd hr => (pe_makeGX hVector gd (hr.mono (by decide)) (passes_call (takes_of rfl rfl rfl rfl) (fun _ _ _ _ e => e)) (pa_cons (pe_callH h_law_pick gd (hr.mono (by decide)) pass0 (pa_cons (pv 0) (pa_cons (pe_lst (pa_cons pe_non (pa_cons pe_str (pa_cons pe_int (pa_cons (pe_tup pa_nil) (pa_cons (pe_makeGX hVector gd (hr.mono (by decide)) (passes_call (takes_of rfl rfl rfl rfl) (fun _ _ _ _ e => e)) (pa_cons (pv 1) (pa_cons (pe_tup (pa_cons pe_int (pa_cons pe_int pa_nil))) pa_nil))) pa_nil)))))) pa_nil))) (pa_cons (pv 5) pa_nil))))) pa_nil)))
 (pss_cons
 (ps_expr (pe_bm PySem.F.plainAttrs_list PySem.F.slot_list_append PySem.F.type_list_append mt_append (pv 3) (pa_cons (pe_met (k := 13) MD MT dig (by exact rfl) TB rfl inT oneT gd (hr.mono (by decide)) (show LamS (defScope s__law_ends_right) _ from lamS_by (by decide +kernel)) rfl (fun _ _ _ _ _ => rfl) (fun A outer s H E f c' gd hr => (pe_makeGX hVector gd (hr.mono (by decide)) (passes_call (takes_of rfl rfl rfl rfl) (fun _ _ _ _ e => e)) (pa_cons (pv 1) (pa_cons (pe_ifExp (pt_cmpR op_ne (pe_callH h_law_point_word gd (hr.mono (by decide)) pass0 (pa_cons (pv 5) pa_nil)) pe_str (nomark _)) (pv 5) pe_non) pa_nil))))) pa_nil)))
 (pss_one
 (ps_ret (pe_cmpR (op_eqD hu) (pv 3) (pe_lst (pa_cons pe_str (pa_cons pe_str (pa_cons pe_str (pa_cons pe_str (pa_cons pe_str (pa_cons pe_str pa_nil))))))) (nomark _))))))))))))), ?_⟩
    have st0 : GL.St cT p (mask p H) H := St.start die tabs
    have hgM : GridAt C U (mask p H) g t := gridAt_mask hg die
    have smA : Same (mask p H) (mask p H) := same_id
    refine ⟨by show 0 ≤ sizeLine; decide, fun l0 n0 => ?_⟩
    have stl0 := st_new (o := HO.tup []) st0 n0 (fun _ z => by cases z)
    have sml0 : Same (mask p H) (upd (mask p H) l0 (HO.tup [])) := Same.new (st_none st0 n0)
    have el0 : upd (mask p H) l0 (HO.tup []) l0 = some (HO.tup []) := upd_same
    generalize upd (mask p H) l0 (HO.tup []) = Ml0 at *
    generalize upd H l0 (HO.tup []) = Hl0 at *
    replace hgM := hgM.same sml0
    replace smA := smA.trans sml0
    have dl0 : Dp K Ml0 (.ref l0) (PyData.tuple []) := .tup (SqT.of el0) .nil
    refine ⟨by show 1 ≤ sizeLine; decide, fun l1 n1 => ?_⟩
    have stl1 := st_new (o := HO.tup [V.int 1]) stl0 n1 (fun _ z => by cases z)
    have sml1 : Same Ml0 (upd Ml0 l1 (HO.tup [V.int 1])) := Same.new (st_none stl0 n1)
    have el1 : upd Ml0 l1 (HO.tup [V.int 1]) l1 = some (HO.tup [V.int 1]) := upd_same
    generalize upd Ml0 l1 (HO.tup [V.int 1]) = Ml1 at *
    generalize upd Hl0 l1 (HO.tup [V.int 1]) = Hl1 at *
    replace hgM := hgM.same sml1
    replace smA := smA.trans sml1
    replace el0 := sml1 _ _ el0
    replace dl0 := dp_same sml1 dl0
    have dl1 : Dp K Ml1 (.ref l1) (PyData.tuple [PyData.int 1]) := .tup (SqT.of el1) (.cons (.int _) .nil)
    refine ⟨by show 2 ≤ sizeLine; decide, fun l2 n2 => ?_⟩
    have stl2 := st_new (o := HO.lst [V.int 0, V.int 2]) stl1 n2 (fun _ z => by cases z)
    have sml2 : Same Ml1 (upd Ml1 l2 (HO.lst [V.int 0, V.int 2])) := Same.new (st_none stl1 n2)
    have el2 : upd Ml1 l2 (HO.lst [V.int 0, V.int 2]) l2 = some (HO.lst [V.int 0, V.int 2]) := upd_same
    generalize upd Ml1 l2 (HO.lst [V.int 0, V.int 2]) = Ml2 at *
    generalize upd Hl1 l2 (HO.lst [V.int 0, V.int 2]) = Hl2 at *
    replace hgM := hgM.same sml2
    replace smA := smA.trans sml2
    replace el0 := sml2 _ _ el0
    replace dl0 := dp_same sml2 dl0
    replace el1 := sml2 _ _ el1
    replace dl1 := dp_same sml2 dl1
    have dl2 : Dp K Ml2 (.ref l2) (PyData.list [PyData.int 0, PyData.int 2]) := .lst (SqL.of el2) (.cons (.int _) (.cons (.int _) .nil))
    refine ⟨by show 3 ≤ sizeLine; decide, fun l3 n3 => ?_⟩
    have stl3 := st_new (o := HO.tup [V.int 0, V.int 2, V.int 1]) stl2 n3 (fun _ z => by cases z)
    have sml3 : Same Ml2 (upd Ml2 l3 (HO.tup [V.int 0, V.int 2, V.int 1])) := Same.new (st_none stl2 n3)
    have el3 : upd Ml2 l3 (HO.tup [V.int 0, V.int 2, V.int 1]) l3 = some (HO.tup [V.int 0, V.int 2, V.int 1]) := upd_same
    generalize upd Ml2 l3 (HO.tup [V.int 0, V.int 2, V.int 1]) = Ml3 at *
    generalize upd Hl2 l3 (HO.tup [V.int 0, V.int 2, V.int 1]) = Hl3 at *
    replace hgM := hgM.same sml3
    replace smA := smA.trans sml3
    replace el0 := sml3 _ _ el0
    replace dl0 := dp_same sml3 dl0
    replace el1 := sml3 _ _ el1
    replace dl1 := dp_same sml3 dl1
    replace el2 := sml3 _ _ el2
    replace dl2 := dp_same sml3 dl2
    have dl3 : Dp K Ml3 (.ref l3) (PyData.tuple [PyData.int 0, PyData.int 2, PyData.int 1]) := .tup (SqT.of el3) (.cons (.int _) (.cons (.int _) (.cons (.int _) .nil)))
    refine ⟨by show 2 ≤ sizeLine; decide, fun l4 n4 => ?_⟩
    have stl4 := st_new (o := HO.tup [V.int 0, V.non]) stl3 n4 (fun _ z => by cases z)
    have sml4 : Same Ml3 (upd Ml3 l4 (HO.tup [V.int 0, V.non])) := Same.new (st_none stl3 n4)
    have el4 : upd Ml3 l4 (HO.tup [V.int 0, V.non]) l4 = some (HO.tup [V.int 0, V.non]) := upd_same
    generalize upd Ml3 l4 (HO.tup [V.int 0, V.non]) = Ml4 at *
    generalize upd Hl3 l4 (HO.tup [V.int 0, V.non]) = Hl4 at *
    replace hgM := hgM.same sml4
    replace smA := smA.trans sml4
    replace el0 := sml4 _ _ el0
    replace dl0 := dp_same sml4 dl0
    replace el1 := sml4 _ _ el1
    replace dl1 := dp_same sml4 dl1
    replace el2 := sml4 _ _ el2
    replace dl2 := dp_same sml4 dl2
    replace el3 := sml4 _ _ el3
    replace dl3 := dp_same sml4 dl3
    have dl4 : Dp K Ml4 (.ref l4) (PyData.tuple [PyData.int 0, PyData.none]) := .tup (SqT.of el4) (.cons (.int _) (.cons .non .nil))
    refine ⟨by show 2 ≤ sizeLine; decide, fun l5 n5 => ?_⟩
    have stl5 := st_new (o := HO.tup [V.bl true, V.int 2]) stl4 n5 (fun _ z => by cases z)
    have sml5 : Same Ml4 (upd Ml4 l5 (HO.tup [V.bl true, V.int 2])) := Same.new (st_none stl4 n5)
    have el5 : upd Ml4 l5 (HO.tup [V.bl true, V.int 2]) l5 = some (HO.tup [V.bl true, V.int 2]) := upd_same
    generalize upd Ml4 l5 (HO.tup [V.bl true, V.int 2]) = Ml5 at *
    generalize upd Hl4 l5 (HO.tup [V.bl true, V.int 2]) = Hl5 at *
    replace hgM := hgM.same sml5
    replace smA := smA.trans sml5
    replace el0 := sml5 _ _ el0
    replace dl0 := dp_same sml5 dl0
    replace el1 := sml5 _ _ el1
    replace dl1 := dp_same sml5 dl1
    replace el2 := sml5 _ _ el2
    replace dl2 := dp_same sml5 dl2
    replace el3 := sml5 _ _ el3
    replace dl3 := dp_same sml5 dl3
    replace el4 := sml5 _ _ el4
    replace dl4 := dp_same sml5 dl4
    have dl5 : Dp K Ml5 (.ref l5) (PyData.tuple [PyData.bool true, PyData.int 2]) := .tup (SqT.of el5) (.cons (.bl _) (.cons (.int _) .nil))
    refine ⟨by show 2 ≤ sizeLine; decide, fun l6 n6 => ?_⟩
    have stl6 := st_new (o := HO.tup [V.str (Str.ofString "0"), V.int 2]) stl5 n6 (fun _ z => by cases z)
    have sml6 : Same Ml5 (upd Ml5 l6 (HO.tup [V.str (Str.ofString "0"), V.int 2])) := Same.new (st_none stl5 n6)
    have el6 : upd Ml5 l6 (HO.tup [V.str (Str.ofString "0"), V.int 2]) l6 = some (HO.tup [V.str (Str.ofString "0"), V.int 2]) := upd_same
    generalize upd Ml5 l6 (HO.tup [V.str (Str.ofString "0"), V.int 2]) = Ml6 at *
    generalize upd Hl5 l6 (HO.tup [V.str (Str.ofString "0"), V.int 2]) = Hl6 at *
    replace hgM := hgM.same sml6
    replace smA := smA.trans sml6
    replace el0 := sml6 _ _ el0
    replace dl0 := dp_same sml6 dl0
    replace el1 := sml6 _ _ el1
    replace dl1 := dp_same sml6 dl1
    replace el2 := sml6 _ _ el2
    replace dl2 := dp_same sml6 dl2
    replace el3 := sml6 _ _ el3
    replace dl3 := dp_same sml6 dl3
    replace el4 := sml6 _ _ el4
    replace dl4 := dp_same sml6 dl4
    replace el5 := sml6 _ _ el5
    replace dl5 := dp_same sml6 dl5
    have dl6 : Dp K Ml6 (.ref l6) (PyData.tuple [PyData.str (Str.ofString "0"), PyData.int 2]) := .tup (SqT.of el6) (.cons (.str _) (.cons (.int _) .nil))
    refine ⟨rfl, by show 2 ≤ sizeLine; decide, fun l7 n7 => ?_⟩
    have stl7 := st_new (o := HO.tup [V.int 0, V.int B]) stl6 n7 (fun _ z => by cases z)
    have sml7 : Same Ml6 (upd Ml6 l7 (HO.tup [V.int 0, V.int B])) := Same.new (st_none stl6 n7)
    have el7 : upd Ml6 l7 (HO.tup [V.int 0, V.int B]) l7 = some (HO.tup [V.int 0, V.int B]) := upd_same
    generalize upd Ml6 l7 (HO.tup [V.int 0, V.int B]) = Ml7 at *
    generalize upd Hl6 l7 (HO.tup [V.int 0, V.int B]) = Hl7 at *
    replace hgM := hgM.same sml7
    replace smA := smA.trans sml7
    replace el0 := sml7 _ _ el0
    replace dl0 := dp_same sml7 dl0
    replace el1 := sml7 _ _ el1
    replace dl1 := dp_same sml7 dl1
    replace el2 := sml7 _ _ el2
    replace dl2 := dp_same sml7 dl2
    replace el3 := sml7 _ _ el3
    replace dl3 := dp_same sml7 dl3
    replace el4 := sml7 _ _ el4
    replace dl4 := dp_same sml7 dl4
    replace el5 := sml7 _ _ el5
    replace dl5 := dp_same sml7 dl5
    replace el6 := sml7 _ _ el6
    replace dl6 := dp_same sml7 dl6
    have dl7 : Dp K Ml7 (.ref l7) (PyData.tuple [PyData.int 0, PyData.int B]) := .tup (SqT.of el7) (.cons (.int _) (.cons (.int _) .nil))
    refine fun l8 n8 => ?_
    have stl8 := st_new (o := HO.dK []) stl7 n8 (fun _ z => by cases z)
    have sml8 : Same Ml7 (upd Ml7 l8 (HO.dK [])) := Same.new (st_none stl7 n8)
    have el8 : upd Ml7 l8 (HO.dK []) l8 = some (HO.dK []) := upd_same
    generalize upd Ml7 l8 (HO.dK []) = Ml8 at *
    generalize upd Hl7 l8 (HO.dK []) = Hl8 at *
    replace hgM := hgM.same sml8
    replace smA := smA.trans sml8
    replace el0 := sml8 _ _ el0
    replace dl0 := dp_same sml8 dl0
    replace el1 := sml8 _ _ el1
    replace dl1 := dp_same sml8 dl1
    replace el2 := sml8 _ _ el2
    replace dl2 := dp_same sml8 dl2
    replace el3 := sml8 _ _ el3
    replace dl3 := dp_same sml8 dl3
    replace el4 := sml8 _ _ el4
    replace dl4 := dp_same sml8 dl4
    replace el5 := sml8 _ _ el5
    replace dl5 := dp_same sml8 dl5
    replace el6 := sml8 _ _ el6
    replace dl6 := dp_same sml8 dl6
    replace el7 := sml8 _ _ el7
    replace dl7 := dp_same sml8 dl7
    have ov1 : ∀ x ∈ [V.non, V.int 0, V.ref l0, V.ref l1, V.ref l2, V.ref l3, V.ref l4, V.ref l5, V.ref l6, V.ref l7, V.ref l8], OVE K C U Ml8 x := by
      simp only [List.forall_mem_cons, List.not_mem_nil, false_implies, implies_true, and_true]
      refine ⟨⟨_, .inl ⟨_, rfl, .inl .non, ⟨by first | rfl | decide +kernel, by first | decide | simp [PyData.depth, PyData.depthAll], by intro ds e; first | (cases e; decide) | cases e⟩⟩, (by first | rfl | exact isPt_B | simp [isPtO, isPtD, isIntD])⟩, ⟨_, .inl ⟨_, rfl, .inl (.int _), ⟨by first | rfl | decide +kernel, by first | decide | simp [PyData.depth, PyData.depthAll], by intro ds e; first | (cases e; decide) | cases e⟩⟩, (by first | rfl | exact isPt_B | simp [isPtO, isPtD, isIntD])⟩, ⟨_, .inl ⟨_, rfl, .inl dl0, ⟨by first | rfl | decide +kernel, by first | decide | simp [PyData.depth, PyData.depthAll], by intro ds e; first | (cases e; decide) | cases e⟩⟩, (by first | rfl | exact isPt_B | simp [isPtO, isPtD, isIntD])⟩, ⟨_, .inl ⟨_, rfl, .inl dl1, ⟨by first | rfl | decide +kernel, by first | decide | simp [PyData.depth, PyData.depthAll], by intro ds e; first | (cases e; decide) | cases e⟩⟩, (by first | rfl | exact isPt_B | simp [isPtO, isPtD, isIntD])⟩, ⟨_, .inl ⟨_, rfl, .inl dl2, ⟨by first | rfl | decide +kernel, by first | decide | simp [PyData.depth, PyData.depthAll], by intro ds e; first | (cases e; decide) | cases e⟩⟩, (by first | rfl | exact isPt_B | simp [isPtO, isPtD, isIntD])⟩, ⟨_, .inl ⟨_, rfl, .inl dl3, ⟨by first | rfl | decide +kernel, by first | decide | simp [PyData.depth, PyData.depthAll], by intro ds e; first | (cases e; decide) | cases e⟩⟩, (by first | rfl | exact isPt_B | simp [isPtO, isPtD, isIntD])⟩, ⟨_, .inl ⟨_, rfl, .inl dl4, ⟨by first | rfl | decide +kernel, by first | decide | simp [PyData.depth, PyData.depthAll], by intro ds e; first | (cases e; decide) | cases e⟩⟩, (by first | rfl | exact isPt_B | simp [isPtO, isPtD, isIntD])⟩, ⟨_, .inl ⟨_, rfl, .inl dl5, ⟨by first | rfl | decide +kernel, by first | decide | simp [PyData.depth, PyData.depthAll], by intro ds e; first | (cases e; decide) | cases e⟩⟩, (by first | rfl | exact isPt_B | simp [isPtO, isPtD, isIntD])⟩, ⟨_, .inl ⟨_, rfl, .inl dl6, ⟨by first | rfl | decide +kernel, by first | decide | simp [PyData.depth, PyData.depthAll], by intro ds e; first | (cases e; decide) | cases e⟩⟩, (by first | rfl | exact isPt_B | simp [isPtO, isPtD, isIntD])⟩, ⟨_, .inl ⟨_, rfl, .inl dl7, ⟨by first | rfl | decide +kernel, by first | decide | simp [PyData.depth, PyData.depthAll], by intro ds e; first | (cases e; decide) | cases e⟩⟩, (by first | rfl | exact isPt_B | simp [isPtO, isPtD, isIntD])⟩, ⟨_, .inr (.inr ⟨rfl, _, rfl, el8⟩), rfl⟩⟩
    refine ⟨by show 11 ≤ sizeLine; decide, fun O1 nO1 => ?_⟩
    have stO1 := st_new (o := HO.lst [V.non, V.int 0, V.ref l0, V.ref l1, V.ref l2, V.ref l3, V.ref l4, V.ref l5, V.ref l6, V.ref l7, V.ref l8]) stl8 nO1 (fun _ z => by cases z)
    have smO1 : Same Ml8 (upd Ml8 O1 (HO.lst [V.non, V.int 0, V.ref l0, V.ref l1, V.ref l2, V.ref l3, V.ref l4, V.ref l5, V.ref l6, V.ref l7, V.ref l8])) := Same.new (st_none stl8 nO1)
    have eO1 : upd Ml8 O1 (HO.lst [V.non, V.int 0, V.ref l0, V.ref l1, V.ref l2, V.ref l3, V.ref l4, V.ref l5, V.ref l6, V.ref l7, V.ref l8]) O1 = some (HO.lst [V.non, V.int 0, V.ref l0, V.ref l1, V.ref l2, V.ref l3, V.ref l4, V.ref l5, V.ref l6, V.ref l7, V.ref l8]) := upd_same
    generalize upd Ml8 O1 (HO.lst [V.non, V.int 0, V.ref l0, V.ref l1, V.ref l2, V.ref l3, V.ref l4, V.ref l5, V.ref l6, V.ref l7, V.ref l8]) = MO1 at *
    generalize upd Hl8 O1 (HO.lst [V.non, V.int 0, V.ref l0, V.ref l1, V.ref l2, V.ref l3, V.ref l4, V.ref l5, V.ref l6, V.ref l7, V.ref l8]) = HO1 at *
    replace hgM := hgM.same smO1
    replace smA := smA.trans smO1
    replace el0 := smO1 _ _ el0
    replace dl0 := dp_same smO1 dl0
    replace el1 := smO1 _ _ el1
    replace dl1 := dp_same smO1 dl1
    replace el2 := smO1 _ _ el2
    replace dl2 := dp_same smO1 dl2
    replace el3 := smO1 _ _ el3
    replace dl3 := dp_same smO1 dl3
    replace el4 := smO1 _ _ el4
    replace dl4 := dp_same smO1 dl4
    replace el5 := smO1 _ _ el5
    replace dl5 := dp_same smO1 dl5
    replace el6 := smO1 _ _ el6
    replace dl6 := dp_same smO1 dl6
    replace el7 := smO1 _ _ el7
    replace dl7 := dp_same smO1 dl7
    replace el8 := smO1 _ _ el8
    replace ov1 := allE_same ov1 smO1
    clear el0 dl0 el1 dl1 el2 dl2 el3 dl3 el4 dl4 el5 dl5 el6 dl6 el7 dl7 el8
    have lenxs1 : ([V.non, V.int 0, V.ref l0, V.ref l1, V.ref l2, V.ref l3, V.ref l4, V.ref l5, V.ref l6, V.ref l7, V.ref l8] : List V).length = 11 := rfl
    generalize ([V.non, V.int 0, V.ref l0, V.ref l1, V.ref l2, V.ref l3, V.ref l4, V.ref l5, V.ref l6, V.ref l7, V.ref l8] : List V) = xs1 at eO1 ov1 lenxs1
    have neO1 : O1 ≠ p := fun z => by rw [z, stO1.mp] at eO1; cases eO1
    refine ⟨_, rfl, _, rfl, p, O1, xs1, rfl, stO1.die, .inl (stO1.same _ _ eO1), neO1, by rw [lenxs1]; decide, by rw [lenxs1]; decide, fun xo HPxo hxo gotxo => ?_⟩
    have stPxo := stO1.got gotxo
    have ovo := ov1 xo hxo
    clear ov1 eO1 hxo gotxo neO1
    refine ⟨_, rfl, by show 1 ≤ sizeLine; decide, fun l10 n10 => ?_⟩
    have stl10 := st_new (o := HO.tup [V.str (Str.ofString "square")]) stPxo n10 (fun _ z => by cases z)
    have sml10 : Same MO1 (upd MO1 l10 (HO.tup [V.str (Str.ofString "square")])) := Same.new (st_none stPxo n10)
    have el10 : upd MO1 l10 (HO.tup [V.str (Str.ofString "square")]) l10 = some (HO.tup [V.str (Str.ofString "square")]) := upd_same
    generalize upd MO1 l10 (HO.tup [V.str (Str.ofString "square")]) = Ml10 at *
    generalize upd HPxo l10 (HO.tup [V.str (Str.ofString "square")]) = Hl10 at *
    replace hgM := hgM.same sml10
    replace smA := smA.trans sml10
    replace ovo := ovo.same sml10
    have dl10 : Dp K Ml10 (.ref l10) (PyData.tuple [PyData.str (Str.ofString "square")]) := .tup (SqT.of el10) (.cons (.str _) .nil)
    refine ⟨by show 1 ≤ sizeLine; decide, fun l11 n11 => ?_⟩
    have stl11 := st_new (o := HO.lst [V.str (Str.ofString "square")]) stl10 n11 (fun _ z => by cases z)
    have sml11 : Same Ml10 (upd Ml10 l11 (HO.lst [V.str (Str.ofString "square")])) := Same.new (st_none stl10 n11)
    have el11 : upd Ml10 l11 (HO.lst [V.str (Str.ofString "square")]) l11 = some (HO.lst [V.str (Str.ofString "square")]) := upd_same
    generalize upd Ml10 l11 (HO.lst [V.str (Str.ofString "square")]) = Ml11 at *
    generalize upd Hl10 l11 (HO.lst [V.str (Str.ofString "square")]) = Hl11 at *
    replace hgM := hgM.same sml11
    replace smA := smA.trans sml11
    replace ovo := ovo.same sml11
    replace el10 := sml11 _ _ el10
    replace dl10 := dp_same sml11 dl10
    have dl11 : Dp K Ml11 (.ref l11) (PyData.list [PyData.str (Str.ofString "square")]) := .lst (SqL.of el11) (.cons (.str _) .nil)
    refine fun l12 n12 => ?_
    have stl12 := st_new (o := HO.dK []) stl11 n12 (fun _ z => by cases z)
    have sml12 : Same Ml11 (upd Ml11 l12 (HO.dK [])) := Same.new (st_none stl11 n12)
    have el12 : upd Ml11 l12 (HO.dK []) l12 = some (HO.dK []) := upd_same
    generalize upd Ml11 l12 (HO.dK []) = Ml12 at *
    generalize upd Hl11 l12 (HO.dK []) = Hl12 at *
    replace hgM := hgM.same sml12
    replace smA := smA.trans sml12
    replace ovo := ovo.same sml12
    replace el10 := sml12 _ _ el10
    replace dl10 := dp_same sml12 dl10
    replace el11 := sml12 _ _ el11
    replace dl11 := dp_same sml12 dl11
    have nn1 : ∀ x ∈ [V.non, V.int 0, V.str (Str.ofString "Square"), V.str (Str.ofString ""), V.ref l10, V.ref l11, V.ref l12, V.bl true, V.ref g, V.str (Str.ofString "squares"), V.str (Str.ofString "hexagon")], NoName K C U Ml12 x := by
      simp only [List.forall_mem_cons, List.not_mem_nil, false_implies, implies_true, and_true]
      refine ⟨.inl ⟨_, .inl .non, (by decide +kernel), (by decide +kernel), (by decide +kernel)⟩, .inl ⟨_, .inl (.int _), (by decide +kernel), (by decide +kernel), (by decide +kernel)⟩, .inl ⟨_, .inl (.str _), (by decide +kernel), (by decide +kernel), (by decide +kernel)⟩, .inl ⟨_, .inl (.str _), (by decide +kernel), (by decide +kernel), (by decide +kernel)⟩, .inl ⟨_, .inl dl10, (by decide +kernel), (by decide +kernel), (by decide +kernel)⟩, .inl ⟨_, .inl dl11, (by decide +kernel), (by decide +kernel), (by decide +kernel)⟩, .inr (.inr ⟨_, rfl, el12⟩), .inl ⟨_, .inl (.bl _), (by decide +kernel), (by decide +kernel), (by decide +kernel)⟩, .inr (.inl ⟨g, t, rfl, hgM⟩), .inl ⟨_, .inl (.str _), (by decide +kernel), (by decide +kernel), (by decide +kernel)⟩, .inl ⟨_, .inl (.str _), (by decide +kernel), (by decide +kernel), (by decide +kernel)⟩⟩
    refine ⟨_, rfl, by show 11 ≤ sizeLine; decide, fun O2 nO2 => ?_⟩
    have stO2 := st_new (o := HO.lst [V.non, V.int 0, V.str (Str.ofString "Square"), V.str (Str.ofString ""), V.ref l10, V.ref l11, V.ref l12, V.bl true, V.ref g, V.str (Str.ofString "squares"), V.str (Str.ofString "hexagon")]) stl12 nO2 (fun _ z => by cases z)
    have smO2 : Same Ml12 (upd Ml12 O2 (HO.lst [V.non, V.int 0, V.str (Str.ofString "Square"), V.str (Str.ofString ""), V.ref l10, V.ref l11, V.ref l12, V.bl true, V.ref g, V.str (Str.ofString "squares"), V.str (Str.ofString "hexagon")])) := Same.new (st_none stl12 nO2)
    have eO2 : upd Ml12 O2 (HO.lst [V.non, V.int 0, V.str (Str.ofString "Square"), V.str (Str.ofString ""), V.ref l10, V.ref l11, V.ref l12, V.bl true, V.ref g, V.str (Str.ofString "squares"), V.str (Str.ofString "hexagon")]) O2 = some (HO.lst [V.non, V.int 0, V.str (Str.ofString "Square"), V.str (Str.ofString ""), V.ref l10, V.ref l11, V.ref l12, V.bl true, V.ref g, V.str (Str.ofString "squares"), V.str (Str.ofString "hexagon")]) := upd_same
    generalize upd Ml12 O2 (HO.lst [V.non, V.int 0, V.str (Str.ofString "Square"), V.str (Str.ofString ""), V.ref l10, V.ref l11, V.ref l12, V.bl true, V.ref g, V.str (Str.ofString "squares"), V.str (Str.ofString "hexagon")]) = MO2 at *
    generalize upd Hl12 O2 (HO.lst [V.non, V.int 0, V.str (Str.ofString "Square"), V.str (Str.ofString ""), V.ref l10, V.ref l11, V.ref l12, V.bl true, V.ref g, V.str (Str.ofString "squares"), V.str (Str.ofString "hexagon")]) = HO2 at *
    replace hgM := hgM.same smO2
    replace smA := smA.trans smO2
    replace ovo := ovo.same smO2
    replace el10 := smO2 _ _ el10
    replace dl10 := dp_same smO2 dl10
    replace el11 := smO2 _ _ el11
    replace dl11 := dp_same smO2 dl11
    replace el12 := smO2 _ _ el12
    replace nn1 := allNN_same nn1 smO2
    clear el10 dl10 el11 dl11 el12
    have lenxs2 : ([V.non, V.int 0, V.str (Str.ofString "Square"), V.str (Str.ofString ""), V.ref l10, V.ref l11, V.ref l12, V.bl true, V.ref g, V.str (Str.ofString "squares"), V.str (Str.ofString "hexagon")] : List V).length = 11 := rfl
    generalize ([V.non, V.int 0, V.str (Str.ofString "Square"), V.str (Str.ofString ""), V.ref l10, V.ref l11, V.ref l12, V.bl true, V.ref g, V.str (Str.ofString "squares"), V.str (Str.ofString "hexagon")] : List V) = xs2 at eO2 nn1 lenxs2
    have neO2 : O2 ≠ p := fun z => by rw [z, stO2.mp] at eO2; cases eO2
    refine ⟨p, O2, xs2, rfl, stO2.die, .inl (stO2.same _ _ eO2), neO2, by rw [lenxs2]; decide, by rw [lenxs2]; decide, fun xn HPxn hxn gotxn => ?_⟩
    have stPxn := stO2.got gotxn
    have nno := nn1 xn hxn
    clear nn1 eO2 hxn gotxn neO2
    refine met_g (w := Str.ofString "operation") (G := Gt cT p MO2 none) stPxn.tabs (fun H1 ex tb => (Gt.none stPxn).met ex tb) (fun H1 g1 E1 Q1 ok bad => ?_) (fun HA0 gA0 => ?_)
    · obtain ⟨dg, eg⟩ := hgM.same g1.same
      have hg1 : GridAt C U H1 g t := ⟨dg, eg⟩
      have ov := ovo.same g1.same
      have nn := nno.same g1.same
      refine ⟨_, rfl, g, dg, _, rfl, eg, rfl, _, rfl, by show 2 ≤ sizeLine; decide, fun TA nTA => ?_⟩
      have sTA := Same.new (o := HO.tup [V.int 1, V.int 3]) nTA
      exact ⟨g, t, xo, _, _, _, rfl, hg1.same sTA, (ov.same sTA).pt i c.cls kT, pg_of (PAt.of upd_same) ok13, (fun r => by cases r), fun _ => bad _ _ _ (g1.ext sTA) (.op _)⟩
    have stA0 := gA0.st
    refine ⟨by show 1 ≤ sizeLine; decide, fun Lt nLt => ?_⟩
    have nLM := st_none stA0 nLt
    have neLt := die_new stA0.die nLt
    have stB0 := St.over (o := HO.lst [V.str (Str.ofString "operation")]) stA0 nLM neLt (.inl nLt)
    have eL0 : upd HA0 Lt (HO.lst [V.str (Str.ofString "operation")]) Lt = some (HO.lst [V.str (Str.ofString "operation")]) := upd_same
    generalize upd HA0 Lt (HO.lst [V.str (Str.ofString "operation")]) = HB0 at *
    refine ⟨_, rfl, .inl ⟨rfl, _, SqL.of eL0⟩, ?_⟩
    refine met_g (w := Str.ofString "operation") (G := Gt cT p MO2 (some (Lt, [V.str (Str.ofString "operation")]))) stB0.tabs (fun H1 ex tb => (Gt.some stB0 eL0 neLt).met ex tb) (fun H1 g1 E1 Q1 ok bad => ?_) (fun HA1 gA1 => ?_)
    · obtain ⟨dg, eg⟩ := hgM.same g1.same
      have hg1 : GridAt C U H1 g t := ⟨dg, eg⟩
      have ov := ovo.same g1.same
      have nn := nno.same g1.same
      refine ⟨_, rfl, g, dg, _, rfl, eg, rfl, by show 2 ≤ sizeLine; decide, fun TA nTA => ⟨_, rfl, ?_⟩⟩
      have sTA := Same.new (o := HO.tup [V.int 1, V.int 3]) nTA
      exact ⟨g, t, _, xo, _, _, rfl, hg1.same sTA, pg_of (PAt.of upd_same) ok13, (ov.same sTA).pt i c.cls kT, (fun _ r => by cases r), fun _ => bad _ _ _ (g1.ext sTA) (.op _)⟩
    have stA1 := gA1.st
    have eA1 := (gA1.told _ _ rfl).1
    refine ⟨Lt, _, _, rfl, rfl, eA1, by show 1 < sizeLine; decide, ?_⟩
    have stB1 := St.over (o := HO.lst ([V.str (Str.ofString "operation")] ++ [V.str (Str.ofString "operation")])) stA1 nLM neLt (.inr ⟨_, eA1⟩)
    have eL1 : upd HA1 Lt (HO.lst ([V.str (Str.ofString "operation")] ++ [V.str (Str.ofString "operation")])) Lt = some (HO.lst [V.str (Str.ofString "operation"), V.str (Str.ofString "operation")]) := upd_same
    generalize upd HA1 Lt (HO.lst ([V.str (Str.ofString "operation")] ++ [V.str (Str.ofString "operation")])) = HB1 at *
    refine ⟨_, rfl, .inl ⟨rfl, _, SqL.of eL1⟩, ?_⟩
    refine met_g (w := Str.ofString "") (G := Gt cT p MO2 (some (Lt, [V.str (Str.ofString "operation"), V.str (Str.ofString "operation")]))) stB1.tabs (fun H1 ex tb => (Gt.some stB1 eL1 neLt).met ex tb) (fun H1 g1 E1 Q1 ok bad => ?_) (fun HA2 gA2 => ?_)
    · obtain ⟨dg, eg⟩ := hgM.same g1.same
      have hg1 : GridAt C U H1 g t := ⟨dg, eg⟩
      have ov := ovo.same g1.same
      have nn := nno.same g1.same
      refine ⟨_, rfl, g, dg, _, rfl, eg, rfl, rfl, _, _, rfl, rfl, by show 2 ≤ sizeLine; decide, fun TA nTA => ⟨by show 2 ≤ sizeLine; decide, fun TB nTB => ?_⟩⟩
      have sTA := Same.new (o := HO.tup [V.int 0, V.int (B - 1)]) nTA
      have sTB := Same.new (o := HO.tup [V.int 1, V.int 3]) nTB
      have sAB := sTA.trans sTB
      exact ⟨g, t, _, _, _, _, rfl, hg1.same sAB, pg_of (PAt.of (sTB _ _ upd_same)) okB1, pg_of (PAt.of upd_same) ok13, (fun _ _ v H' s' => ok rfl v H' ((g1.ext sAB).ext s')), fun z => by rcases z with z | z <;> cases z⟩
    have stA2 := gA2.st
    have eA2 := (gA2.told _ _ rfl).1
    refine ⟨Lt, _, _, rfl, rfl, eA2, by show 2 < sizeLine; decide, ?_⟩
    have stB2 := St.over (o := HO.lst ([V.str (Str.ofString "operation"), V.str (Str.ofString "operation")] ++ [V.str (Str.ofString "")])) stA2 nLM neLt (.inr ⟨_, eA2⟩)
    have eL2 : upd HA2 Lt (HO.lst ([V.str (Str.ofString "operation"), V.str (Str.ofString "operation")] ++ [V.str (Str.ofString "")])) Lt = some (HO.lst [V.str (Str.ofString "operation"), V.str (Str.ofString "operation"), V.str (Str.ofString "")]) := upd_same
    generalize upd HA2 Lt (HO.lst ([V.str (Str.ofString "operation"), V.str (Str.ofString "operation")] ++ [V.str (Str.ofString "")])) = HB2 at *
    refine ⟨_, rfl, .inl ⟨rfl, _, SqL.of eL2⟩, ?_⟩
    refine met_g (w := Str.ofString "grid") (G := Gt cT p MO2 (some (Lt, [V.str (Str.ofString "operation"), V.str (Str.ofString "operation"), V.str (Str.ofString "")]))) stB2.tabs (fun H1 ex tb => (Gt.some stB2 eL2 neLt).met ex tb) (fun H1 g1 E1 Q1 ok bad => ?_) (fun HA3 gA3 => ?_)
    · obtain ⟨dg, eg⟩ := hgM.same g1.same
      have hg1 : GridAt C U H1 g t := ⟨dg, eg⟩
      have ov := ovo.same g1.same
      have nn := nno.same g1.same
      refine ⟨_, rfl, fun v dv nv ndv ne => ?_⟩
      have s1 := (Same.new (o := HO.own v) ndv).trans (Same.new (o := HO.ins C dv []) (by rw [upd_ne ne.symm]; exact nv))
      exact ⟨v, dv, xn, rfl, upd_same, .inr ⟨nn.same s1, bad _ _ _ (g1.ext s1) (.grid _)⟩⟩
    have stA3 := gA3.st
    have eA3 := (gA3.told _ _ rfl).1
    refine ⟨Lt, _, _, rfl, rfl, eA3, by show 3 < sizeLine; decide, ?_⟩
    have stB3 := St.over (o := HO.lst ([V.str (Str.ofString "operation"), V.str (Str.ofString "operation"), V.str (Str.ofString "")] ++ [V.str (Str.ofString "grid")])) stA3 nLM neLt (.inr ⟨_, eA3⟩)
    have eL3 : upd HA3 Lt (HO.lst ([V.str (Str.ofString "operation"), V.str (Str.ofString "operation"), V.str (Str.ofString "")] ++ [V.str (Str.ofString "grid")])) Lt = some (HO.lst [V.str (Str.ofString "operation"), V.str (Str.ofString "operation"), V.str (Str.ofString ""), V.str (Str.ofString "grid")]) := upd_same
    generalize upd HA3 Lt (HO.lst ([V.str (Str.ofString "operation"), V.str (Str.ofString "operation"), V.str (Str.ofString "")] ++ [V.str (Str.ofString "grid")])) = HB3 at *
    refine ⟨_, rfl, .inl ⟨rfl, _, SqL.of eL3⟩, ?_⟩
    refine met_g (w := Str.ofString "grid") (G := Gt cT p MO2 (some (Lt, [V.str (Str.ofString "operation"), V.str (Str.ofString "operation"), V.str (Str.ofString ""), V.str (Str.ofString "grid")]))) stB3.tabs (fun H1 ex tb => (Gt.some stB3 eL3 neLt).met ex tb) (fun H1 g1 E1 Q1 ok bad => ?_) (fun HA4 gA4 => ?_)
    · obtain ⟨dg, eg⟩ := hgM.same g1.same
      have hg1 : GridAt C U H1 g t := ⟨dg, eg⟩
      have ov := ovo.same g1.same
      have nn := nno.same g1.same
      refine ⟨_, rfl, by show 0 ≤ sizeLine; decide, fun TA nTA => ?_⟩
      have sTA := Same.new (o := HO.tup []) nTA
      have eTA : upd H1 TA (HO.tup []) TA = some (HO.tup []) := upd_same
      have g2 := g1.ext sTA
      generalize upd H1 TA (HO.tup []) = H2 at *
      refine ⟨_, rfl, by show 2 ≤ sizeLine; decide, fun TB nTB => ?_⟩
      have sTB := Same.new (o := HO.tup [V.int 0, V.int 0]) nTB
      have eTB : upd H2 TB (HO.tup [V.int 0, V.int 0]) TB = some (HO.tup [V.int 0, V.int 0]) := upd_same
      have g3 := g2.ext sTB
      have eTA3 := sTB _ _ eTA
      have hg3 := hg1.same (sTA.trans sTB)
      have ov3 := ov.same (sTA.trans sTB)
      generalize upd H2 TB (HO.tup [V.int 0, V.int 0]) = H3 at *
      refine fun v dv nv ndv ne => ?_
      have s1 := (Same.new (o := HO.own v) ndv).trans (Same.new (o := HO.ins CV dv []) (by rw [upd_ne ne.symm]; exact nv))
      refine ⟨v, dv, _, _, rfl, upd_same, .inr (.inr ⟨g, t, TB, (0, 0), rfl, rfl, hg3.same s1, PAt.of (s1 _ _ eTB), ok00, fun H4 hk eH => ⟨rfl, ?_⟩⟩)⟩
      have s4 : Same H3 H4 := same_made nv ndv hk
      have hv : VecAt K C U CV H4 v t (0, 0) := ⟨dv, g, TB, eH, hg3.same s4, (PAt.of (u := (0, 0)) eTB).same s4⟩
      have g4 := g3.ext s4
      have ov4 := ov3.same s4
      have eTA4 := s4 _ _ eTA3
      clear eH hk nv ndv ne s1 nTA nTB
      have die4 := g4.st.die
      have ng : ∀ x ∈ [V.non, V.str (Str.ofString "square"), V.int 0, V.ref TA, V.ref v], NoGrid K C (mask p H4) x := by
        simp only [List.forall_mem_cons, List.not_mem_nil, false_implies, implies_true, and_true]
        exact ⟨noGrid_kind i .non, noGrid_kind i .str, noGrid_kind i .int, noGrid_kind i (sqT_of (SqT.of (mask_at eTA4 (die_ne die4 eTA4 (fun _ z => by cases z)) (fun _ z => by cases z)))), noGrid_vec vi vc kVG (vecAt_mask hv die4)⟩
      refine ⟨by show 5 ≤ sizeLine; decide, fun LV nLV => ?_⟩
      have sLV := Same.new (o := HO.lst [V.non, V.str (Str.ofString "square"), V.int 0, V.ref TA, V.ref v]) nLV
      have neV := die_new g4.st.die nLV
      refine ⟨p, LV, _, rfl, (g4.ext sLV).st.die, .inl upd_same, neV, by show 0 < 5; decide, by show 5 ≤ 1000; decide, fun x H5 hx got => ⟨_, rfl, fun a da na nda nea => ?_⟩⟩
      have g5 := (g4.ext sLV).got got
      have m5 : Same (mask p H4) H5 := fun b o e => got.keep b o (sLV b o (mask_of e).1) (mask_of e).2.1
      have s6 := (Same.new (o := HO.own a) nda).trans (Same.new (o := HO.ins CV da []) (by rw [upd_ne nea.symm]; exact na))
      obtain ⟨Ty, ty, kt⟩ := (ng x hx).same (m5.trans s6)
      exact ⟨a, da, x, xo, rfl, upd_same, .inl ⟨Ty, ty, kt, bad _ _ _ (g5.ext s6) (.grid _)⟩⟩
    have stA4 := gA4.st
    have eA4 := (gA4.told _ _ rfl).1
    refine ⟨Lt, _, _, rfl, rfl, eA4, by show 4 < sizeLine; decide, ?_⟩
    have stB4 := St.over (o := HO.lst ([V.str (Str.ofString "operation"), V.str (Str.ofString "operation"), V.str (Str.ofString ""), V.str (Str.ofString "grid")] ++ [V.str (Str.ofString "grid")])) stA4 nLM neLt (.inr ⟨_, eA4⟩)
    have eL4 : upd HA4 Lt (HO.lst ([V.str (Str.ofString "operation"), V.str (Str.ofString "operation"), V.str (Str.ofString ""), V.str (Str.ofString "grid")] ++ [V.str (Str.ofString "grid")])) Lt = some (HO.lst [V.str (Str.ofString "operation"), V.str (Str.ofString "operation"), V.str (Str.ofString ""), V.str (Str.ofString "grid"), V.str (Str.ofString "grid")]) := upd_same
    generalize upd HA4 Lt (HO.lst ([V.str (Str.ofString "operation"), V.str (Str.ofString "operation"), V.str (Str.ofString ""), V.str (Str.ofString "grid")] ++ [V.str (Str.ofString "grid")])) = HB4 at *
    refine ⟨_, rfl, .inl ⟨rfl, _, SqL.of eL4⟩, ?_⟩
    refine met_g (w := Str.ofString "point") (G := Gt cT p MO2 (some (Lt, [V.str (Str.ofString "operation"), V.str (Str.ofString "operation"), V.str (Str.ofString ""), V.str (Str.ofString "grid"), V.str (Str.ofString "grid")]))) stB4.tabs (fun H1 ex tb => (Gt.some stB4 eL4 neLt).met ex tb) (fun H1 g1 E1 Q1 ok bad => ?_) (fun HA5 gA5 => ?_)
    · obtain ⟨dg, eg⟩ := hgM.same g1.same
      have hg1 : GridAt C U H1 g t := ⟨dg, eg⟩
      have ov := ovo.same g1.same
      have nn := nno.same g1.same
      refine ⟨_, rfl, _, rfl, xo, false, rfl, ov.pt i c.cls kT, rfl, _, rfl, ?_⟩
      rw [show (!decide (V.str (wordOf false) = V.str (Str.ofString ""))) = true by decide +kernel]
      refine iteT ⟨_, rfl, fun v dv nv ndv ne => ?_⟩
      have s1 := (Same.new (o := HO.own v) ndv).trans (Same.new (o := HO.ins CV dv []) (by rw [upd_ne ne.symm]; exact nv))
      exact ⟨v, dv, _, _, rfl, upd_same, .inr (.inl ⟨g, t, rfl, hg1.same s1, (ov.same s1).pt i c.cls kT, bad _ _ _ (g1.ext s1) (.point _)⟩)⟩
    have stA5 := gA5.st
    have eA5 := (gA5.told _ _ rfl).1
    refine ⟨Lt, _, _, rfl, rfl, eA5, by show 5 < sizeLine; decide, ?_⟩
    have stB5 := St.over (o := HO.lst ([V.str (Str.ofString "operation"), V.str (Str.ofString "operation"), V.str (Str.ofString ""), V.str (Str.ofString "grid"), V.str (Str.ofString "grid")] ++ [V.str (Str.ofString "point")])) stA5 nLM neLt (.inr ⟨_, eA5⟩)
    have eL5 : upd HA5 Lt (HO.lst ([V.str (Str.ofString "operation"), V.str (Str.ofString "operation"), V.str (Str.ofString ""), V.str (Str.ofString "grid"), V.str (Str.ofString "grid")] ++ [V.str (Str.ofString "point")])) Lt = some (HO.lst [V.str (Str.ofString "operation"), V.str (Str.ofString "operation"), V.str (Str.ofString ""), V.str (Str.ofString "grid"), V.str (Str.ofString "grid"), V.str (Str.ofString "point")]) := upd_same
    generalize upd HA5 Lt (HO.lst ([V.str (Str.ofString "operation"), V.str (Str.ofString "operation"), V.str (Str.ofString ""), V.str (Str.ofString "grid"), V.str (Str.ofString "grid")] ++ [V.str (Str.ofString "point")])) = HB5 at *
    refine ⟨_, rfl, by show 6 ≤ sizeLine; decide, fun LZ nLZ => ?_⟩
    have sLZ := Same.new (o := HO.lst ([Str.ofString "operation", Str.ofString "operation", Str.ofString "", Str.ofString "grid", Str.ofString "grid", Str.ofString "point"].map V.str)) nLZ
    have okT : ∀ w ∈ [Str.ofString "operation", Str.ofString "operation", Str.ofString "", Str.ofString "grid", Str.ofString "grid", Str.ofString "point"], PyData.strOk w = true := list_ok (by decide +kernel)
    refine ⟨.list ([Str.ofString "operation", Str.ofString "operation", Str.ofString "", Str.ofString "grid", Str.ofString "grid", Str.ofString "point"].map PyData.str), .list ([Str.ofString "operation", Str.ofString "operation", Str.ofString "", Str.ofString "grid", Str.ofString "grid", Str.ofString "point"].map PyData.str), .lst (SqL.of (sLZ _ _ eL5)) (dp_strs (ys := [Str.ofString "operation", Str.ofString "operation", Str.ofString "", Str.ofString "grid", Str.ofString "grid", Str.ofString "point"])), .lst (SqL.of upd_same) (dp_strs (ys := [Str.ofString "operation", Str.ofString "operation", Str.ofString "", Str.ofString "grid", Str.ofString "grid", Str.ofString "point"])), strs_lay okT, strs_lay okT, ?_⟩
    rw [strs_refl]
    exact k _ ((stB5.ext sLZ).done smA)
end
end K07
namespace K07
open PySem PySem.Spec PyProof.Rows L2 GL PySem.GLE LamX
abbrev s__law_vectors_right : Stmt := topS 45
abbrev N__law_vectors_right : List Str := ["_law_dice_here", "_law_grid", "_law_aside", "_law_told", "_law_is_let", "_law_due", "_law_index", "_law_many", "_law_odd", "_law_one", "_law_turn"]
theorem sc__law_vectors_right : FnScope N__law_vectors_right ["_law_dice_here", "_law_grid", "_law_aside"] (defScope s__law_vectors_right) := ⟨rfl, rfl, rfl, by decide +kernel, rfl, by decide +kernel, by decide +kernel⟩
section
variable {P : Program} {w : World} {K : PySem.W.Frag} {mg : Str → Option Value} {base : Heap}
variable {aG dU C CV CM : Addr} {U : Bool → Addr} {us : Bool → List Addr} {cs : Cs}
variable {cT : List (Addr × Str)} {cA PA : Addr}
theorem h_vectors (T : Txt K mg aG dU C CV CM cs) (c : GCls K C) (i : GIs K C) (vi : VIs K C CV CM) (vcs : ∀ D, IsV CV CM D → VCls K D) (nGV : C ≠ CV) (vng : ∀ D, IsV CV CM D → D ≠ C) (MD : Df K mg "_law_met" s__law_met) (MT : MetT K mg cs) (dig : PySem.W.nsIn K cStatics "sys.int_max_str_digits" = some none)
    (bk_add : ∀ C D, IsV CV CM C → IsV CV CM D → BinK K C D .Add) (bk_sub : ∀ C D, IsV CV CM C → IsV CV CM D → BinK K C D .Sub) (bk_mul : ∀ C D, IsV CV CM C → IsV CV CM D → BinK K C D .Mult) (bk_div : ∀ C D, IsV CV CM C → IsV CV CM D → BinK K C D .FloorDiv)
    (bc_add : ∀ D, IsV CV CM D → BinC K D "add") (bc_sub : ∀ D, IsV CV CM D → BinC K D "sub") (bc_mul : ∀ D, IsV CV CM D → BinC K D "mul") (bc_div : ∀ D, IsV CV CM D → BinC K D "floordiv")
    (bg_add : BareC K C "add") (bg_sub : BareC K C "sub") (bg_mul : BareC K C "mul") (bg_div : BareC K C "floordiv")
    (TB : TabB base mg cA PA) (inT : (PA, (("_law_vectors_right" : Str) ++ ".<locals>.") ++ "<lambda>") ∈ cT) (oneT : ∀ p ∈ cT, p.1 = PA → p.2 = (("_law_vectors_right" : Str) ++ ".<locals>.") ++ "<lambda>")
    (h_law_limit : Has P w K mg base CX0 "_law_limit" 1 [] spLimit) (h_law_pick : Has P w K mg base CX0 "_law_pick" 2 ["_law_dice_here", "_law_items"] spPick)
    (h_law_is_int : Has P w K mg base CX0 "_law_is_int" 2 ["_law_value"] (spIsIntL K)) (hVector : HasGX P w K mg base (L2.CX P w) "Vector" CV 4 ["self", "grid", "point"] (spVInitX K C U CV cs))
    (vfn : ∀ D f, IsV CV CM D → PySem.W.findIn K (.ref D) "__getitem__" = some (some (.ref f)) → PySem.W.fnIn K f = true)
    (hm_vadd : ∀ D, IsV CV CM D → HasM P w K mg base (L2.CX P w) D "__add__" 4 ["self", "other"] (spVBad K C U CV CM cs)) (hm_vsub : ∀ D, IsV CV CM D → HasM P w K mg base (L2.CX P w) D "__sub__" 4 ["self", "other"] (spVBad K C U CV CM cs))
    (hm_vmul : ∀ D, IsV CV CM D → HasM P w K mg base (L2.CX P w) D "__mul__" 4 ["self", "other"] (spVBad K C U CV CM cs)) (hm_vdiv : ∀ D, IsV CV CM D → HasM P w K mg base (L2.CX P w) D "__floordiv__" 4 ["self", "other"] (spVDivX K C U CV CM cs))
    (hm_vturned : ∀ D, IsV CV CM D → HasM P w K mg base (L2.CX P w) D "turned" 4 ["self", "turn"] (spVTurnX K C U CV CM cs)) (hm_vpower : ∀ D, IsV CV CM D → HasM P w K mg base (L2.CX P w) D "power" 13 ["self", "many"] (spVPowX K C U CV CM cs))
    (hm_vitem : ∀ D, IsV CV CM D → HasM P w K mg base (L2.CX P w) D "__getitem__" 2 ["self", "index"] (spVItemX K C U CV CM cs)) (D : Dl K mg "_law_vectors_right" s__law_vectors_right cA) :
    Has P w K mg base CX0 "_law_vectors_right" 17 ["_law_dice_here", "_law_grid", "_law_aside"] (spVec K C U cT) := by
  have vcls : ∀ D, IsV CV CM D → Cls K D := fun D d => (vcs D d).cls
  refine D.hasL sc__law_vectors_right (fun vs H Q E h => ?_) (fun kV doc pm an cdv ct us hl => match us, hl with | [_, _, _], _ => rfl) (fun f A outer s H vs Q E gd hr h => ?_)
  · obtain ⟨p, g, ga, t, t2, rfl, _⟩ := h
    rfl
  · obtain ⟨p, g, ga, t, t2, rfl, die, hg, hga, tne, tabs, k⟩ := h
    have hu := hr.units
    refine ⟨_, (pss_cons
 (ps_set (i := 9) sc__law_vectors_right.nd rfl (Or.inr rfl) (pe_makeGX hVector gd (hr.mono (by decide)) passX0 (pa_cons (pv 1) (pa_cons (pe_tup (pa_cons pe_int (pa_cons pe_int pa_nil))) pa_nil))))
 (pss_cons
 (ps_set (i := 8) sc__law_vectors_right.nd rfl (Or.inr rfl) (pe_callH h_law_pick gd (hr.mono (by decide)) pass0 (pa_cons (pv 0) (pa_cons (pe_lst (pa_cons pe_non (pa_cons pe_int (pa_cons (pe_tup (pa_cons pe_int (pa_cons pe_int pa_nil))) (pa_cons pe_str (pa_cons (pe_lst (pa_cons (pv 9) pa_nil)) (pa_cons (pe_makeGX hVector gd (hr.mono (by decide)) passX0 (pa_cons (pv 2) (pa_cons (pe_tup (pa_cons pe_int (pa_cons pe_int pa_nil))) pa_nil))) (pa_cons (pv 1) (pa_cons pe_dnewK (pa_cons pe_bl (pa_cons (pe_tup (pa_cons (pv 9) pa_nil)) pa_nil))))))))))) pa_nil))))
 (pss_cons
 (ps_set (i := 3) sc__law_vectors_right.nd rfl (Or.inl rfl) (pe_lst (pa_cons (pe_met (k := 13) MD MT dig (by exact rfl) TB rfl inT oneT gd (hr.mono (by decide)) (show LamS (defScope s__law_vectors_right) _ from lamS_by (by decide +kernel)) rfl (fun _ _ _ _ _ => rfl) (fun A outer s H E f c' gd hr => (pe_op (op_binO' (K0 := K) (by exact rfl) (k := 4) (op := .Add) (m := "__add__") (by decide +kernel) (by decide) hm_vadd bk_add bc_add bg_add vng gd (hr.mono (by decide)) (passes_call (takes_of rfl rfl rfl rfl) (fun _ _ _ _ e => e))) (pv 9) (pv 8)))) pa_nil)))
 (pss_cons
 (ps_expr (pe_bm PySem.F.plainAttrs_list PySem.F.slot_list_append PySem.F.type_list_append mt_append (pv 3) (pa_cons (pe_met (k := 13) MD MT dig (by exact rfl) TB rfl inT oneT gd (hr.mono (by decide)) (show LamS (defScope s__law_vectors_right) _ from lamS_by (by decide +kernel)) rfl (fun _ _ _ _ _ => rfl) (fun A outer s H E f c' gd hr => (pe_op (op_binO' (K0 := K) (by exact rfl) (k := 4) (op := .Sub) (m := "__sub__") (by decide +kernel) (by decide) hm_vsub bk_sub bc_sub bg_sub vng gd (hr.mono (by decide)) (passes_call (takes_of rfl rfl rfl rfl) (fun _ _ _ _ e => e))) (pv 9) (pv 8)))) pa_nil)))
 (pss_cons
 (ps_expr (pe_bm PySem.F.plainAttrs_list PySem.F.slot_list_append PySem.F.type_list_append mt_append (pv 3) (pa_cons (pe_met (k := 13) MD MT dig (by exact rfl) TB rfl inT oneT gd (hr.mono (by decide)) (show LamS (defScope s__law_vectors_right) _ from lamS_by (by decide +kernel)) rfl (fun _ _ _ _ _ => rfl) (fun A outer s H E f c' gd hr => (pe_op (op_binO' (K0 := K) (by exact rfl) (k := 4) (op := .Mult) (m := "__mul__") (by decide +kernel) (by decide) hm_vmul bk_mul bc_mul bg_mul vng gd (hr.mono (by decide)) (passes_call (takes_of rfl rfl rfl rfl) (fun _ _ _ _ e => e))) (pv 9) (pv 8)))) pa_nil)))
 (pss_cons
 (ps_expr (pe_bm PySem.F.plainAttrs_list PySem.F.slot_list_append PySem.F.type_list_append mt_append (pv 3) (pa_cons (pe_met (k := 13) MD MT dig (by exact rfl) TB rfl inT oneT gd (hr.mono (by decide)) (show LamS (defScope s__law_vectors_right) _ from lamS_by (by decide +kernel)) rfl (fun _ _ _ _ _ => rfl) (fun A outer s H E f c' gd hr => (pe_op (op_binO' (K0 := K) (by exact rfl) (k := 4) (op := .FloorDiv) (m := "__floordiv__") (by decide +kernel) (by decide) hm_vdiv bk_div bc_div bg_div vng gd (hr.mono (by decide)) (passes_call (takes_of rfl rfl rfl rfl) (fun _ _ _ _ e => e))) (pv 9) (pv 8)))) pa_nil)))
 (pss_cons
 (ps_if (pt_cmpR (op_neD hu) (pv 3) (pe_op op_rep (pe_lst (pa_cons pe_str pa_nil)) pe_int) (nomark _)) (pss_one
 (ps_ret pe_bl)) pss_nil)
 (pss_cons
 (ps_set (i := 7) sc__law_vectors_right.nd rfl (Or.inr rfl) (pe_callH h_law_pick gd (hr.mono (by decide)) pass0 (pa_cons (pv 0) (pa_cons (pe_lst (pa_cons pe_int (pa_cons pe_int (pa_cons pe_int (pa_cons pe_int (pa_cons pe_int (pa_cons (pe_op op_sub pe_int pe_int) (pa_cons pe_non (pa_cons pe_bl (pa_cons pe_str (pa_cons (pe_tup pa_nil) (pa_cons (pe_op op_pow pe_int pe_int) (pa_cons (pe_lst pa_nil) pa_nil))))))))))))) pa_nil))))
 (pss_cons
 (ps_set (i := 4) sc__law_vectors_right.nd rfl (Or.inl rfl) (pe_andK (pe_callH h_law_is_int gd (hr.mono (by decide)) pass0 (pa_cons (pv 7) pa_nil)) (pe_one (pe_chain op_le op_le pe_int (pv 7) pe_int))))
 (pss_cons
 (ps_set (i := 6) sc__law_vectors_right.nd rfl (Or.inr rfl) (pe_callH h_law_pick gd (hr.mono (by decide)) pass0 (pa_cons (pv 0) (pa_cons (pe_lst (pa_cons pe_int (pa_cons pe_int (pa_cons pe_int (pa_cons (pe_op op_sub pe_int pe_int) (pa_cons pe_non (pa_cons pe_bl (pa_cons pe_bl (pa_cons pe_str (pa_cons (pe_tup (pa_cons pe_int pa_nil)) (pa_cons (pe_lst pa_nil) (pa_cons (pe_op op_pow pe_int pe_int) pa_nil)))))))))))) pa_nil))))
 (pss_cons
 (ps_set (i := 10) sc__law_vectors_right.nd rfl (Or.inr rfl) (pe_callH h_law_pick gd (hr.mono (by decide)) pass0 (pa_cons (pv 0) (pa_cons (pe_lst (pa_cons pe_non (pa_cons pe_bl (pa_cons pe_str (pa_cons (pe_tup pa_nil) (pa_cons (pe_lst pa_nil) (pa_cons (pe_call0H h_law_limit gd (hr.mono (by decide)) pass0) pa_nil))))))) pa_nil))))
 (pss_cons
 (ps_set (i := 3) sc__law_vectors_right.nd rfl (Or.inl rfl) (pe_lst (pa_cons (pe_met (k := 13) MD MT dig (by exact rfl) TB rfl inT oneT gd (hr.mono (by decide)) (show LamS (defScope s__law_vectors_right) _ from lamS_by (by decide +kernel)) rfl (fun _ _ _ _ _ => rfl) (fun A outer s H E f c' gd hr => (pe_methV (pv 9) vcls (fun D d => ⟨_, hm_vpower D d⟩) gd (hr.mono (by decide)) (passes_call (takes_of rfl rfl rfl rfl) (fun _ _ _ _ e => e)) (pa_cons (pv 7) pa_nil)))) pa_nil)))
 (pss_cons
 (ps_expr (pe_bm PySem.F.plainAttrs_list PySem.F.slot_list_append PySem.F.type_list_append mt_append (pv 3) (pa_cons (pe_met (k := 13) MD MT dig (by exact rfl) TB rfl inT oneT gd (hr.mono (by decide)) (show LamS (defScope s__law_vectors_right) _ from lamS_by (by decide +kernel)) rfl (fun _ _ _ _ _ => rfl) (fun A outer s H E f c' gd hr => (pe_ixV hm_vitem gd (hr.mono (by decide)) (passes_call (takes_of rfl rfl rfl rfl) (fun _ _ _ _ e => e)) (pv 9) (pv 6) vfn))) pa_nil)))
 (pss_cons
 (ps_expr (pe_bm PySem.F.plainAttrs_list PySem.F.slot_list_append PySem.F.type_list_append mt_append (pv 3) (pa_cons (pe_met (k := 13) MD MT dig (by exact rfl) TB rfl inT oneT gd (hr.mono (by decide)) (show LamS (defScope s__law_vectors_right) _ from lamS_by (by decide +kernel)) rfl (fun _ _ _ _ _ => rfl) (fun A outer s H E f c' gd hr => (pe_methV (pv 9) vcls (fun D d => ⟨_, hm_vturned D d⟩) gd (hr.mono (by decide)) (passes_call (takes_of rfl rfl rfl rfl) (fun _ _ _ _ e => e)) (pa_cons (pv 10) pa_nil)))) pa_nil)))
 (pss_cons
 (ps_expr (pe_bm PySem.F.plainAttrs_list PySem.F.slot_list_append PySem.F.type_list_append mt_append (pv 3) (pa_cons (pe_met (k := 13) MD MT dig (by exact rfl) TB rfl inT oneT gd (hr.mono (by decide)) (show LamS (defScope s__law_vectors_right) _ from lamS_by (by decide +kernel)) rfl (fun _ _ _ _ _ => rfl) (fun A outer s H E f c' gd hr => (pe_op (op_binO' (K0 := K) (by exact rfl) (k := 4) (op := .FloorDiv) (m := "__floordiv__") (by decide +kernel) (by decide) hm_vdiv bk_div bc_div bg_div vng gd (hr.mono (by decide)) (passes_call (takes_of rfl rfl rfl rfl) (fun _ _ _ _ e => e))) (pv 9) (pe_makeGX hVector gd (hr.mono (by decide)) (passes_call (takes_of rfl rfl rfl rfl) (fun _ _ _ _ e => e)) (pa_cons (pv 1) (pa_cons (pe_tup (pa_cons pe_int (pa_cons pe_int pa_nil))) pa_nil)))))) pa_nil)))
 (pss_cons
 (ps_expr (pe_bm PySem.F.plainAttrs_list PySem.F.slot_list_append PySem.F.type_list_append mt_append (pv 3) (pa_cons (pe_met (k := 13) MD MT dig (by exact rfl) TB rfl inT oneT gd (hr.mono (by decide)) (show LamS (defScope s__law_vectors_right) _ from lamS_by (by decide +kernel)) rfl (fun _ _ _ _ _ => rfl) (fun A outer s H E f c' gd hr => (pe_op (op_binO' (K0 := K) (by exact rfl) (k := 4) (op := .FloorDiv) (m := "__floordiv__") (by decide +kernel) (by decide) hm_vdiv bk_div bc_div bg_div vng gd (hr.mono (by decide)) (passes_call (takes_of rfl rfl rfl rfl) (fun _ _ _ _ e => e))) (pv 9) (pe_makeGX hVector gd (hr.mono (by decide)) (passes_call (takes_of rfl rfl rfl rfl) (fun _ _ _ _ e => e)) (pa_cons (pv 1) (pa_cons (pe_tup (pa_cons pe_int (pa_cons pe_int pa_nil))) pa_nil)))))) pa_nil)))
 (pss_cons
 (ps_expr (pe_bm PySem.F.plainAttrs_list PySem.F.slot_list_append PySem.F.type_list_append mt_append (pv 3) (pa_cons (pe_met (k := 13) MD MT dig (by exact rfl) TB rfl inT oneT gd (hr.mono (by decide)) (show LamS (defScope s__law_vectors_right) _ from lamS_by (by decide +kernel)) rfl (fun _ _ _ _ _ => rfl) (fun A outer s H E f c' gd hr => (pe_op (op_binO' (K0 := K) (by exact rfl) (k := 4) (op := .FloorDiv) (m := "__floordiv__") (by decide +kernel) (by decide) hm_vdiv bk_div bc_div bg_div vng gd (hr.mono (by decide)) (passes_call (takes_of rfl rfl rfl rfl) (fun _ _ _ _ e => e))) (pv 9) (pe_makeGX hVector gd (hr.mono (by decide)) (passes_call (takes_of rfl rfl rfl rfl) (fun _ _ _ _ e => e)) (pa_cons (pv 1) (pa_cons (pe_tup (pa_cons pe_int (pa_cons pe_int pa_nil))) pa_nil)))))) pa_nil)))
 (pss_cons
 (ps_set (i := 5) sc__law_vectors_right.nd rfl (Or.inl rfl) (pe_lst (pa_cons (pe_ifExpK (pt_val (pv 4)) pe_str (pe_op op_add_str pe_str (pe_callB (call_reprQ dig gd hu) (by exact rfl) T.zrepr (by decide +kernel) (pa_cons (pv 7) pa_nil)))) pa_nil)))
 (pss_cons
 (ps_expr (pe_bm PySem.F.plainAttrs_list PySem.F.slot_list_append PySem.F.type_list_append mt_append (pv 5) (pa_cons (pe_ifExpK (PW.pt (pw_and (pt_val (pe_callH h_law_is_int gd (hr.mono (by decide)) pass0 (pa_cons (pv 6) pa_nil))) (pw_and1 (pt_cmpR op_in_seq (pv 6) (pe_tup (pa_cons pe_int (pa_cons pe_int pa_nil))) (by rfl))))) pe_str (pe_op op_add_str pe_str (pe_callB (call_reprQ dig gd hu) (by exact rfl) T.zrepr (by decide +kernel) (pa_cons (pv 6) pa_nil)))) pa_nil)))
 (pss_one
 (ps_ret (pe_cmpR (op_eqD hu) (pv 3) (pe_op op_cat (pv 5) (pe_lst (pa_cons (pe_op op_add_str pe_str (pe_callB (call_reprQ dig gd hu) (by exact rfl) T.zrepr (by decide +kernel) (pa_cons (pv 10) pa_nil))) (pa_cons pe_str (pa_cons pe_str (pa_cons pe_str pa_nil)))))) (nomark _))))))))))))))))))))))), ?_⟩
    have st0 : GL.St cT p (mask p H) H := St.start die tabs
    have hgM : GridAt C U (mask p H) g t := gridAt_mask hg die
    have smA : Same (mask p H) (mask p H) := same_id
    have hgA : GridAt C U (mask p H) ga t2 := gridAt_mask hga die
    refine ⟨_, rfl, by show 2 ≤ sizeLine; decide, fun TV nTV => ?_⟩
    have stTV := st_new (o := HO.tup [V.int 3, V.int 4]) st0 nTV (fun _ z => by cases z)
    have smTV : Same (mask p H) (upd (mask p H) TV (HO.tup [V.int 3, V.int 4])) := Same.new (st_none st0 nTV)
    have eTV : upd (mask p H) TV (HO.tup [V.int 3, V.int 4]) TV = some (HO.tup [V.int 3, V.int 4]) := upd_same
    generalize upd (mask p H) TV (HO.tup [V.int 3, V.int 4]) = MTV at *
    generalize upd H TV (HO.tup [V.int 3, V.int 4]) = HTV at *
    replace hgM := hgM.same smTV
    replace smA := smA.trans smTV
    replace hgA := hgA.same smTV
    refine fun v dv nv ndv nev => ?_
    have hgv := hgM.same stTV.same
    have pv := PAt.of (K := K) (u := (3, 4)) (stTV.same _ _ eTV)
    have s1v := (Same.new (o := HO.own v) ndv).trans (Same.new (o := HO.ins CV dv []) (by rw [upd_ne nev.symm]; exact nv))
    refine ⟨v, dv, _, _, rfl, upd_same, .inr (.inr ⟨g, t, TV, (3, 4), rfl, rfl, hgv.same s1v, pv.same s1v, ok34, fun Hv hkv ev => ⟨rfl, ?_⟩⟩)⟩
    have s4v : Same HTV Hv := same_made nv ndv hkv
    have hv : VecAt K C U CV Hv v t (3, 4) := ⟨dv, g, TV, ev, hgv.same s4v, pv.same s4v⟩
    have stv := stTV.ext s4v
    clear hkv ev nv ndv nev s1v hgv pv s4v
    have stRv := stv.re
    have smRv := stv.grow
    replace hgM := hgM.same smRv
    replace smA := smA.trans smRv
    replace hgA := hgA.same smRv
    replace eTV := smRv _ _ eTV
    have hv := vecAt_mask hv stRv.die
    generalize mask p Hv = MRv at *
    refine ⟨_, rfl, by show 2 ≤ sizeLine; decide, fun l0 n0 => ?_⟩
    have stl0 := st_new (o := HO.tup [V.int 1, V.int 2]) stRv n0 (fun _ z => by cases z)
    have sml0 : Same MRv (upd MRv l0 (HO.tup [V.int 1, V.int 2])) := Same.new (st_none stRv n0)
    have el0 : upd MRv l0 (HO.tup [V.int 1, V.int 2]) l0 = some (HO.tup [V.int 1, V.int 2]) := upd_same
    generalize upd MRv l0 (HO.tup [V.int 1, V.int 2]) = Ml0 at *
    generalize upd Hv l0 (HO.tup [V.int 1, V.int 2]) = Hl0 at *
    replace hgM := hgM.same sml0
    replace smA := smA.trans sml0
    replace hgA := hgA.same sml0
    replace eTV := sml0 _ _ eTV
    replace hv := hv.same sml0
    refine ⟨_, rfl, by show 1 ≤ sizeLine; decide, fun l1 n1 => ?_⟩
    have stl1 := st_new (o := HO.lst [V.ref v]) stl0 n1 (fun _ z => by cases z)
    have sml1 : Same Ml0 (upd Ml0 l1 (HO.lst [V.ref v])) := Same.new (st_none stl0 n1)
    have el1 : upd Ml0 l1 (HO.lst [V.ref v]) l1 = some (HO.lst [V.ref v]) := upd_same
    generalize upd Ml0 l1 (HO.lst [V.ref v]) = Ml1 at *
    generalize upd Hl0 l1 (HO.lst [V.ref v]) = Hl1 at *
    replace hgM := hgM.same sml1
    replace smA := smA.trans sml1
    replace hgA := hgA.same sml1
    replace eTV := sml1 _ _ eTV
    replace hv := hv.same sml1
    replace el0 := sml1 _ _ el0
    refine ⟨_, rfl, by show 2 ≤ sizeLine; decide, fun TW nTW => ?_⟩
    have stTW := st_new (o := HO.tup [V.int 1, V.int 2]) stl1 nTW (fun _ z => by cases z)
    have smTW : Same Ml1 (upd Ml1 TW (HO.tup [V.int 1, V.int 2])) := Same.new (st_none stl1 nTW)
    have eTW : upd Ml1 TW (HO.tup [V.int 1, V.int 2]) TW = some (HO.tup [V.int 1, V.int 2]) := upd_same
    generalize upd Ml1 TW (HO.tup [V.int 1, V.int 2]) = MTW at *
    generalize upd Hl1 TW (HO.tup [V.int 1, V.int 2]) = HTW at *
    replace hgM := hgM.same smTW
    replace smA := smA.trans smTW
    replace hgA := hgA.same smTW
    replace eTV := smTW _ _ eTV
    replace hv := hv.same smTW
    replace el0 := smTW _ _ el0
    replace el1 := smTW _ _ el1
    refine fun q dq nq ndq neq => ?_
    have hgq := hgA.same stTW.same
    have pq := PAt.of (K := K) (u := (1, 2)) (stTW.same _ _ eTW)
    have s1q := (Same.new (o := HO.own q) ndq).trans (Same.new (o := HO.ins CV dq []) (by rw [upd_ne neq.symm]; exact nq))
    refine ⟨q, dq, _, _, rfl, upd_same, .inr (.inr ⟨ga, t2, TW, (1, 2), rfl, rfl, hgq.same s1q, pq.same s1q, ok12, fun Hq hkq eq => ⟨rfl, ?_⟩⟩)⟩
    have s4q : Same HTW Hq := same_made nq ndq hkq
    have hq : VecAt K C U CV Hq q t2 (1, 2) := ⟨dq, ga, TW, eq, hgq.same s4q, pq.same s4q⟩
    have stq := stTW.ext s4q
    clear hkq eq nq ndq neq s1q hgq pq s4q
    have stRq := stq.re
    have smRq := stq.grow
    replace hgM := hgM.same smRq
    replace smA := smA.trans smRq
    replace hgA := hgA.same smRq
    replace eTV := smRq _ _ eTV
    replace hv := hv.same smRq
    replace el0 := smRq _ _ el0
    replace el1 := smRq _ _ el1
    replace eTW := smRq _ _ eTW
    have hq := vecAt_mask hq stRq.die
    generalize mask p Hq = MRq at *
    refine ⟨_, rfl, fun l2 n2 => ?_⟩
    have stl2 := st_new (o := HO.dK []) stRq n2 (fun _ z => by cases z)
    have sml2 : Same MRq (upd MRq l2 (HO.dK [])) := Same.new (st_none stRq n2)
    have el2 : upd MRq l2 (HO.dK []) l2 = some (HO.dK []) := upd_same
    generalize upd MRq l2 (HO.dK []) = Ml2 at *
    generalize upd Hq l2 (HO.dK []) = Hl2 at *
    replace hgM := hgM.same sml2
    replace smA := smA.trans sml2
    replace hgA := hgA.same sml2
    replace eTV := sml2 _ _ eTV
    replace hv := hv.same sml2
    replace el0 := sml2 _ _ el0
    replace el1 := sml2 _ _ el1
    replace eTW := sml2 _ _ eTW
    replace hq := hq.same sml2
    refine ⟨_, rfl, by show 1 ≤ sizeLine; decide, fun l3 n3 => ?_⟩
    have stl3 := st_new (o := HO.tup [V.ref v]) stl2 n3 (fun _ z => by cases z)
    have sml3 : Same Ml2 (upd Ml2 l3 (HO.tup [V.ref v])) := Same.new (st_none stl2 n3)
    have el3 : upd Ml2 l3 (HO.tup [V.ref v]) l3 = some (HO.tup [V.ref v]) := upd_same
    generalize upd Ml2 l3 (HO.tup [V.ref v]) = Ml3 at *
    generalize upd Hl2 l3 (HO.tup [V.ref v]) = Hl3 at *
    replace hgM := hgM.same sml3
    replace smA := smA.trans sml3
    replace hgA := hgA.same sml3
    replace eTV := sml3 _ _ eTV
    replace hv := hv.same sml3
    replace el0 := sml3 _ _ el0
    replace el1 := sml3 _ _ el1
    replace eTW := sml3 _ _ eTW
    replace hq := hq.same sml3
    replace el2 := sml3 _ _ el2
    have rv1 : ∀ x ∈ [V.non, V.int 1, V.ref l0, V.str (Str.ofString "1,2"), V.ref l1, V.ref q, V.ref g, V.ref l2, V.bl true, V.ref l3], RV K C U CV CM t Ml3 x := by
      simp only [List.forall_mem_cons, List.not_mem_nil, false_implies, implies_true, and_true]
      exact ⟨.inl ⟨.non, .non⟩, .inl ⟨.int, .int⟩, .inl ⟨.tup, sqT_of (SqT.of el0)⟩, .inl ⟨.str, .str⟩, .inl ⟨.lst, sqL_of (SqL.of el1)⟩, .inr (.inl ⟨q, t2, _, rfl, hq, tne⟩), .inr (.inr ⟨g, t, rfl, hgM⟩), .inl ⟨.dct, .dct el2⟩, .inl ⟨.bl, .bl⟩, .inl ⟨.tup, sqT_of (SqT.of el3)⟩⟩
    refine ⟨by show 10 ≤ sizeLine; decide, fun O1 nO1 => ?_⟩
    have stO1 := st_new (o := HO.lst [V.non, V.int 1, V.ref l0, V.str (Str.ofString "1,2"), V.ref l1, V.ref q, V.ref g, V.ref l2, V.bl true, V.ref l3]) stl3 nO1 (fun _ z => by cases z)
    have smO1 : Same Ml3 (upd Ml3 O1 (HO.lst [V.non, V.int 1, V.ref l0, V.str (Str.ofString "1,2"), V.ref l1, V.ref q, V.ref g, V.ref l2, V.bl true, V.ref l3])) := Same.new (st_none stl3 nO1)
    have eO1 : upd Ml3 O1 (HO.lst [V.non, V.int 1, V.ref l0, V.str (Str.ofString "1,2"), V.ref l1, V.ref q, V.ref g, V.ref l2, V.bl true, V.ref l3]) O1 = some (HO.lst [V.non, V.int 1, V.ref l0, V.str (Str.ofString "1,2"), V.ref l1, V.ref q, V.ref g, V.ref l2, V.bl true, V.ref l3]) := upd_same
    generalize upd Ml3 O1 (HO.lst [V.non, V.int 1, V.ref l0, V.str (Str.ofString "1,2"), V.ref l1, V.ref q, V.ref g, V.ref l2, V.bl true, V.ref l3]) = MO1 at *
    generalize upd Hl3 O1 (HO.lst [V.non, V.int 1, V.ref l0, V.str (Str.ofString "1,2"), V.ref l1, V.ref q, V.ref g, V.ref l2, V.bl true, V.ref l3]) = HO1 at *
    replace hgM := hgM.same smO1
    replace smA := smA.trans smO1
    replace hgA := hgA.same smO1
    replace eTV := smO1 _ _ eTV
    replace hv := hv.same smO1
    replace el0 := smO1 _ _ el0
    replace el1 := smO1 _ _ el1
    replace eTW := smO1 _ _ eTW
    replace hq := hq.same smO1
    replace el2 := smO1 _ _ el2
    replace el3 := smO1 _ _ el3
    replace rv1 := allR_same rv1 smO1
    clear eTV el0 el1 eTW el2 el3
    have lenxs1 : ([V.non, V.int 1, V.ref l0, V.str (Str.ofString "1,2"), V.ref l1, V.ref q, V.ref g, V.ref l2, V.bl true, V.ref l3] : List V).length = 10 := rfl
    generalize ([V.non, V.int 1, V.ref l0, V.str (Str.ofString "1,2"), V.ref l1, V.ref q, V.ref g, V.ref l2, V.bl true, V.ref l3] : List V) = xs1 at eO1 rv1 lenxs1
    clear hq
    have neO1 : O1 ≠ p := fun z => by rw [z, stO1.mp] at eO1; cases eO1
    refine ⟨p, O1, xs1, rfl, stO1.die, .inl (stO1.same _ _ eO1), neO1, by rw [lenxs1]; decide, by rw [lenxs1]; decide, fun xo HPxo hxo gotxo => ?_⟩
    have stPxo := stO1.got gotxo
    have rvo := rv1 xo hxo
    clear rv1 eO1 hxo gotxo neO1
    refine met_g (w := Str.ofString "operation") (G := Gt cT p MO1 none) stPxo.tabs (fun H1 ex tb => (Gt.none stPxo).met ex tb) (fun H1 g1 E1 Q1 ok bad => ?_) (fun HAa0 gAa0 => ?_)
    · have hv1 := hv.same g1.same
      have rv1 := rvo.same g1.same
      obtain ⟨dv1, gv1, av1, ev1, hgv1, pv1⟩ := id hv1
      exact ⟨_, rfl, _, rfl, v, CV, dv1, _, rfl, .inl rfl, ev1, rv1.opd, v, CV, t, (3, 4), xo, rfl, .inl rfl, hv1, rv1.part vi i c.cls nGV, bad _ _ _ g1 (.op _)⟩
    have stAa0 := gAa0.st
    refine ⟨by show 1 ≤ sizeLine; decide, fun Lta nLta => ?_⟩
    have nLMa := st_none stAa0 nLta
    have neLta := die_new stAa0.die nLta
    have stBa0 := St.over (o := HO.lst [V.str (Str.ofString "operation")]) stAa0 nLMa neLta (.inl nLta)
    have eLa0 : upd HAa0 Lta (HO.lst [V.str (Str.ofString "operation")]) Lta = some (HO.lst [V.str (Str.ofString "operation")]) := upd_same
    generalize upd HAa0 Lta (HO.lst [V.str (Str.ofString "operation")]) = HBa0 at *
    refine ⟨_, rfl, .inl ⟨rfl, _, SqL.of eLa0⟩, ?_⟩
    refine met_g (w := Str.ofString "operation") (G := Gt cT p MO1 (some (Lta, [V.str (Str.ofString "operation")]))) stBa0.tabs (fun H1 ex tb => (Gt.some stBa0 eLa0 neLta).met ex tb) (fun H1 g1 E1 Q1 ok bad => ?_) (fun HAa1 gAa1 => ?_)
    · have hv1 := hv.same g1.same
      have rv1 := rvo.same g1.same
      obtain ⟨dv1, gv1, av1, ev1, hgv1, pv1⟩ := id hv1
      exact ⟨_, rfl, _, rfl, v, CV, dv1, _, rfl, .inl rfl, ev1, rv1.opd, v, CV, t, (3, 4), xo, rfl, .inl rfl, hv1, rv1.part vi i c.cls nGV, bad _ _ _ g1 (.op _)⟩
    have stAa1 := gAa1.st
    have eAa1 := (gAa1.told _ _ rfl).1
    refine ⟨Lta, _, _, rfl, rfl, eAa1, by show 1 < sizeLine; decide, ?_⟩
    have stBa1 := St.over (o := HO.lst ([V.str (Str.ofString "operation")] ++ [V.str (Str.ofString "operation")])) stAa1 nLMa neLta (.inr ⟨_, eAa1⟩)
    have eLa1 : upd HAa1 Lta (HO.lst ([V.str (Str.ofString "operation")] ++ [V.str (Str.ofString "operation")])) Lta = some (HO.lst [V.str (Str.ofString "operation"), V.str (Str.ofString "operation")]) := upd_same
    generalize upd HAa1 Lta (HO.lst ([V.str (Str.ofString "operation")] ++ [V.str (Str.ofString "operation")])) = HBa1 at *
    refine ⟨_, rfl, .inl ⟨rfl, _, SqL.of eLa1⟩, ?_⟩
    refine met_g (w := Str.ofString "operation") (G := Gt cT p MO1 (some (Lta, [V.str (Str.ofString "operation"), V.str (Str.ofString "operation")]))) stBa1.tabs (fun H1 ex tb => (Gt.some stBa1 eLa1 neLta).met ex tb) (fun H1 g1 E1 Q1 ok bad => ?_) (fun HAa2 gAa2 => ?_)
    · have hv1 := hv.same g1.same
      have rv1 := rvo.same g1.same
      obtain ⟨dv1, gv1, av1, ev1, hgv1, pv1⟩ := id hv1
      exact ⟨_, rfl, _, rfl, v, CV, dv1, _, rfl, .inl rfl, ev1, rv1.opd, v, CV, t, (3, 4), xo, rfl, .inl rfl, hv1, rv1.part vi i c.cls nGV, bad _ _ _ g1 (.op _)⟩
    have stAa2 := gAa2.st
    have eAa2 := (gAa2.told _ _ rfl).1
    refine ⟨Lta, _, _, rfl, rfl, eAa2, by show 2 < sizeLine; decide, ?_⟩
    have stBa2 := St.over (o := HO.lst ([V.str (Str.ofString "operation"), V.str (Str.ofString "operation")] ++ [V.str (Str.ofString "operation")])) stAa2 nLMa neLta (.inr ⟨_, eAa2⟩)
    have eLa2 : upd HAa2 Lta (HO.lst ([V.str (Str.ofString "operation"), V.str (Str.ofString "operation")] ++ [V.str (Str.ofString "operation")])) Lta = some (HO.lst [V.str (Str.ofString "operation"), V.str (Str.ofString "operation"), V.str (Str.ofString "operation")]) := upd_same
    generalize upd HAa2 Lta (HO.lst ([V.str (Str.ofString "operation"), V.str (Str.ofString "operation")] ++ [V.str (Str.ofString "operation")])) = HBa2 at *
    refine ⟨_, rfl, .inl ⟨rfl, _, SqL.of eLa2⟩, ?_⟩
    refine met_g (w := Str.ofString "operation") (G := Gt cT p MO1 (some (Lta, [V.str (Str.ofString "operation"), V.str (Str.ofString "operation"), V.str (Str.ofString "operation")]))) stBa2.tabs (fun H1 ex tb => (Gt.some stBa2 eLa2 neLta).met ex tb) (fun H1 g1 E1 Q1 ok bad => ?_) (fun HAa3 gAa3 => ?_)
    · have hv1 := hv.same g1.same
      have rv1 := rvo.same g1.same
      obtain ⟨dv1, gv1, av1, ev1, hgv1, pv1⟩ := id hv1
      exact ⟨_, rfl, _, rfl, v, CV, dv1, _, rfl, .inl rfl, ev1, rv1.opd, v, CV, t, (3, 4), xo, rfl, .inl rfl, hv1, .inl ⟨rv1.part vi i c.cls nGV, bad _ _ _ g1 (.op _)⟩⟩
    have stAa3 := gAa3.st
    have eAa3 := (gAa3.told _ _ rfl).1
    refine ⟨Lta, _, _, rfl, rfl, eAa3, by show 3 < sizeLine; decide, ?_⟩
    have stBa3 := St.over (o := HO.lst ([V.str (Str.ofString "operation"), V.str (Str.ofString "operation"), V.str (Str.ofString "operation")] ++ [V.str (Str.ofString "operation")])) stAa3 nLMa neLta (.inr ⟨_, eAa3⟩)
    have eLa3 : upd HAa3 Lta (HO.lst ([V.str (Str.ofString "operation"), V.str (Str.ofString "operation"), V.str (Str.ofString "operation")] ++ [V.str (Str.ofString "operation")])) Lta = some (HO.lst [V.str (Str.ofString "operation"), V.str (Str.ofString "operation"), V.str (Str.ofString "operation"), V.str (Str.ofString "operation")]) := upd_same
    generalize upd HAa3 Lta (HO.lst ([V.str (Str.ofString "operation"), V.str (Str.ofString "operation"), V.str (Str.ofString "operation")] ++ [V.str (Str.ofString "operation")])) = HBa3 at *
    refine ⟨_, rfl, by show 1 ≤ sizeLine; decide, fun LQ nLQ => ?_⟩
    have sLQ := Same.new (o := HO.lst [V.str (Str.ofString "operation")]) nLQ
    have eQ : upd HBa3 LQ (HO.lst [V.str (Str.ofString "operation")]) LQ = some (HO.lst [V.str (Str.ofString "operation")]) := upd_same
    have stQ := stBa3.ext sLQ
    have eT1 := sLQ _ _ eLa3
    generalize upd HBa3 LQ (HO.lst [V.str (Str.ofString "operation")]) = HQ at *
    refine ⟨LQ, 4, _, rfl, rfl, eQ, by decide, by decide, by show 1 * 4 ≤ sizeLine; decide, fun LR nLR => ?_⟩
    have sLR := Same.new (o := HO.lst ((List.replicate (4 : Int).toNat [V.str (Str.ofString "operation")]).flatten)) nLR
    have okT : ∀ w ∈ [Str.ofString "operation", Str.ofString "operation", Str.ofString "operation", Str.ofString "operation"], PyData.strOk w = true := list_ok (by decide +kernel)
    refine ⟨.list ([Str.ofString "operation", Str.ofString "operation", Str.ofString "operation", Str.ofString "operation"].map PyData.str), .list ([Str.ofString "operation", Str.ofString "operation", Str.ofString "operation", Str.ofString "operation"].map PyData.str), .lst (SqL.of (sLR _ _ eT1)) (dp_strs (ys := [Str.ofString "operation", Str.ofString "operation", Str.ofString "operation", Str.ofString "operation"])), .lst (SqL.of upd_same) (dp_strs (ys := [Str.ofString "operation", Str.ofString "operation", Str.ofString "operation", Str.ofString "operation"])), strs_lay okT, strs_lay okT, _, rfl, ?_⟩
    rw [strs_refl]
    have stS := stQ.ext sLR
    clear eT1 eQ eLa3
    generalize upd HQ LR (HO.lst ((List.replicate (4 : Int).toNat [V.str (Str.ofString "operation")]).flatten)) = HS at *
    refine (iteF ?_ : if (!true) = true then _ else _)
    clear rvo
    refine ⟨_, rfl, _, _, rfl, rfl, by show 0 ≤ sizeLine; decide, fun l7 n7 => ?_⟩
    have stl7 := st_new (o := HO.tup []) stS n7 (fun _ z => by cases z)
    have sml7 : Same MO1 (upd MO1 l7 (HO.tup [])) := Same.new (st_none stS n7)
    have el7 : upd MO1 l7 (HO.tup []) l7 = some (HO.tup []) := upd_same
    generalize upd MO1 l7 (HO.tup []) = Ml7 at *
    generalize upd HS l7 (HO.tup []) = Hl7 at *
    replace hgM := hgM.same sml7
    replace smA := smA.trans sml7
    replace hgA := hgA.same sml7
    replace hv := hv.same sml7
    have dl7 : Dp K Ml7 (.ref l7) (PyData.tuple []) := .tup (SqT.of el7) .nil
    refine ⟨_, _, rfl, rfl, ⟨by decide, by decide⟩, by show 0 ≤ sizeLine; decide, fun l8 n8 => ?_⟩
    have stl8 := st_new (o := HO.lst []) stl7 n8 (fun _ z => by cases z)
    have sml8 : Same Ml7 (upd Ml7 l8 (HO.lst [])) := Same.new (st_none stl7 n8)
    have el8 : upd Ml7 l8 (HO.lst []) l8 = some (HO.lst []) := upd_same
    generalize upd Ml7 l8 (HO.lst []) = Ml8 at *
    generalize upd Hl7 l8 (HO.lst []) = Hl8 at *
    replace hgM := hgM.same sml8
    replace smA := smA.trans sml8
    replace hgA := hgA.same sml8
    replace hv := hv.same sml8
    replace el7 := sml8 _ _ el7
    replace dl7 := dp_same sml8 dl7
    have dl8 : Dp K Ml8 (.ref l8) (PyData.list []) := .lst (SqL.of el8) .nil
    have nvm : ∀ x ∈ [V.int 0, V.int 1, V.int 3, V.int 1000, V.int 1001, V.int (0 - 1), V.non, V.bl true, V.str (Str.ofString "2"), V.ref l7, V.int ((10 : Int) ^ (60 : Int).toNat), V.ref l8], ∃ d, NV K Ml8 x d := by
      simp only [List.forall_mem_cons, List.not_mem_nil, false_implies, implies_true, and_true]
      refine ⟨⟨_, nv_int (by decide +kernel)⟩, ⟨_, nv_int (by decide +kernel)⟩, ⟨_, nv_int (by decide +kernel)⟩, ⟨_, nv_int (by decide +kernel)⟩, ⟨_, nv_int (by decide +kernel)⟩, ⟨_, nv_int (by decide +kernel)⟩, ⟨_, nv_flat .non (by decide +kernel) (by decide +kernel) (by decide +kernel) (by decide +kernel) (by decide +kernel)⟩, ⟨_, nv_flat (.bl _) (by decide +kernel) (by decide +kernel) (by decide +kernel) (by decide +kernel) (by decide +kernel)⟩, ⟨_, nv_flat (.str _) (by decide +kernel) (by decide +kernel) (by decide +kernel) (by decide +kernel) (by decide +kernel)⟩, ⟨_, nv_flat dl7 (by decide +kernel) (by decide +kernel) (by decide +kernel) (by decide +kernel) (by decide +kernel)⟩, ⟨_, nv_int (by decide +kernel)⟩, ⟨_, nv_flat dl8 (by decide +kernel) (by decide +kernel) (by decide +kernel) (by decide +kernel) (by decide +kernel)⟩⟩
    refine ⟨by show 12 ≤ sizeLine; decide, fun Lm nLm => ?_⟩
    have stLm := st_new (o := HO.lst [V.int 0, V.int 1, V.int 3, V.int 1000, V.int 1001, V.int (0 - 1), V.non, V.bl true, V.str (Str.ofString "2"), V.ref l7, V.int ((10 : Int) ^ (60 : Int).toNat), V.ref l8]) stl8 nLm (fun _ z => by cases z)
    have smLm : Same Ml8 (upd Ml8 Lm (HO.lst [V.int 0, V.int 1, V.int 3, V.int 1000, V.int 1001, V.int (0 - 1), V.non, V.bl true, V.str (Str.ofString "2"), V.ref l7, V.int ((10 : Int) ^ (60 : Int).toNat), V.ref l8])) := Same.new (st_none stl8 nLm)
    have eLm : upd Ml8 Lm (HO.lst [V.int 0, V.int 1, V.int 3, V.int 1000, V.int 1001, V.int (0 - 1), V.non, V.bl true, V.str (Str.ofString "2"), V.ref l7, V.int ((10 : Int) ^ (60 : Int).toNat), V.ref l8]) Lm = some (HO.lst [V.int 0, V.int 1, V.int 3, V.int 1000, V.int 1001, V.int (0 - 1), V.non, V.bl true, V.str (Str.ofString "2"), V.ref l7, V.int ((10 : Int) ^ (60 : Int).toNat), V.ref l8]) := upd_same
    generalize upd Ml8 Lm (HO.lst [V.int 0, V.int 1, V.int 3, V.int 1000, V.int 1001, V.int (0 - 1), V.non, V.bl true, V.str (Str.ofString "2"), V.ref l7, V.int ((10 : Int) ^ (60 : Int).toNat), V.ref l8]) = MLm at *
    generalize upd Hl8 Lm (HO.lst [V.int 0, V.int 1, V.int 3, V.int 1000, V.int 1001, V.int (0 - 1), V.non, V.bl true, V.str (Str.ofString "2"), V.ref l7, V.int ((10 : Int) ^ (60 : Int).toNat), V.ref l8]) = HLm at *
    replace hgM := hgM.same smLm
    replace smA := smA.trans smLm
    replace hgA := hgA.same smLm
    replace hv := hv.same smLm
    replace el7 := smLm _ _ el7
    replace dl7 := dp_same smLm dl7
    replace el8 := smLm _ _ el8
    replace dl8 := dp_same smLm dl8
    replace nvm := allN_same nvm smLm
    clear el7 dl7 el8 dl8
    have lenxsm : ([V.int 0, V.int 1, V.int 3, V.int 1000, V.int 1001, V.int (0 - 1), V.non, V.bl true, V.str (Str.ofString "2"), V.ref l7, V.int ((10 : Int) ^ (60 : Int).toNat), V.ref l8] : List V).length = 12 := rfl
    generalize ([V.int 0, V.int 1, V.int 3, V.int 1000, V.int 1001, V.int (0 - 1), V.non, V.bl true, V.str (Str.ofString "2"), V.ref l7, V.int ((10 : Int) ^ (60 : Int).toNat), V.ref l8] : List V) = xsm at eLm nvm lenxsm
    have neLm : Lm ≠ p := fun z => by rw [z, stLm.mp] at eLm; cases eLm
    refine ⟨p, Lm, xsm, rfl, stLm.die, .inl (stLm.same _ _ eLm), neLm, by rw [lenxsm]; decide, by rw [lenxsm]; decide, fun xm HPxm hxm gotxm => ?_⟩
    have stPxm := stLm.got gotxm
    obtain ⟨dm, nvxm⟩ := nvm xm hxm
    clear nvm eLm hxm gotxm neLm
    refine andV_cut (v := .bl (letV xm)) (fun Q1 q => ?_) ?_
    · have nv := nvxm.same stPxm.same
      refine ⟨_, rfl, xm, _, rfl, dr_of nv.1, _, rfl, ?_⟩
      cases hi : isIntV xm with
      | false => rw [let_odd hi] at q; exact iteF q
      | true =>
        obtain ⟨n, rfl⟩ := int_of hi
        refine iteT ⟨_, rfl, _, _, rfl, rfl, _, rfl, ?_⟩
        have e : letV (.int n) = (decide (0 ≤ n) && decide (n ≤ 1000)) := rfl
        rw [e] at q
        by_cases h0 : (0 : Int) ≤ n
        · rw [decide_eq_true h0, Bool.true_and] at q
          rw [decide_eq_true h0]
          exact iteT ⟨_, _, rfl, rfl, q⟩
        · rw [decide_eq_false h0, Bool.false_and] at q
          rw [decide_eq_false h0]
          exact iteF q
    refine ⟨_, rfl, _, _, rfl, rfl, by show 1 ≤ sizeLine; decide, fun l10 n10 => ?_⟩
    have stl10 := st_new (o := HO.tup [V.int 0]) stPxm n10 (fun _ z => by cases z)
    have sml10 : Same MLm (upd MLm l10 (HO.tup [V.int 0])) := Same.new (st_none stPxm n10)
    have el10 : upd MLm l10 (HO.tup [V.int 0]) l10 = some (HO.tup [V.int 0]) := upd_same
    generalize upd MLm l10 (HO.tup [V.int 0]) = Ml10 at *
    generalize upd HPxm l10 (HO.tup [V.int 0]) = Hl10 at *
    replace hgM := hgM.same sml10
    replace smA := smA.trans sml10
    replace hgA := hgA.same sml10
    replace hv := hv.same sml10
    replace nvxm := nvxm.same sml10
    have dl10 : Dp K Ml10 (.ref l10) (PyData.tuple [PyData.int 0]) := .tup (SqT.of el10) (.cons (.int _) .nil)
    refine ⟨by show 0 ≤ sizeLine; decide, fun l11 n11 => ?_⟩
    have stl11 := st_new (o := HO.lst []) stl10 n11 (fun _ z => by cases z)
    have sml11 : Same Ml10 (upd Ml10 l11 (HO.lst [])) := Same.new (st_none stl10 n11)
    have el11 : upd Ml10 l11 (HO.lst []) l11 = some (HO.lst []) := upd_same
    generalize upd Ml10 l11 (HO.lst []) = Ml11 at *
    generalize upd Hl10 l11 (HO.lst []) = Hl11 at *
    replace hgM := hgM.same sml11
    replace smA := smA.trans sml11
    replace hgA := hgA.same sml11
    replace hv := hv.same sml11
    replace nvxm := nvxm.same sml11
    replace el10 := sml11 _ _ el10
    replace dl10 := dp_same sml11 dl10
    have dl11 : Dp K Ml11 (.ref l11) (PyData.list []) := .lst (SqL.of el11) .nil
    have nvi : ∀ x ∈ [V.int 0, V.int 1, V.int 2, V.int (0 - 1), V.non, V.bl true, V.bl false, V.str (Str.ofString "0"), V.ref l10, V.ref l11, V.int ((10 : Int) ^ (60 : Int).toNat)], ∃ d, NV K Ml11 x d := by
      simp only [List.forall_mem_cons, List.not_mem_nil, false_implies, implies_true, and_true]
      refine ⟨⟨_, nv_int (by decide +kernel)⟩, ⟨_, nv_int (by decide +kernel)⟩, ⟨_, nv_int (by decide +kernel)⟩, ⟨_, nv_int (by decide +kernel)⟩, ⟨_, nv_flat .non (by decide +kernel) (by decide +kernel) (by decide +kernel) (by decide +kernel) (by decide +kernel)⟩, ⟨_, nv_flat (.bl _) (by decide +kernel) (by decide +kernel) (by decide +kernel) (by decide +kernel) (by decide +kernel)⟩, ⟨_, nv_flat (.bl _) (by decide +kernel) (by decide +kernel) (by decide +kernel) (by decide +kernel) (by decide +kernel)⟩, ⟨_, nv_flat (.str _) (by decide +kernel) (by decide +kernel) (by decide +kernel) (by decide +kernel) (by decide +kernel)⟩, ⟨_, nv_flat dl10 (by decide +kernel) (by decide +kernel) (by decide +kernel) (by decide +kernel) (by decide +kernel)⟩, ⟨_, nv_flat dl11 (by decide +kernel) (by decide +kernel) (by decide +kernel) (by decide +kernel) (by decide +kernel)⟩, ⟨_, nv_int (by decide +kernel)⟩⟩
    refine ⟨_, _, rfl, rfl, ⟨by decide, by decide⟩, by show 11 ≤ sizeLine; decide, fun Li nLi => ?_⟩
    have stLi := st_new (o := HO.lst [V.int 0, V.int 1, V.int 2, V.int (0 - 1), V.non, V.bl true, V.bl false, V.str (Str.ofString "0"), V.ref l10, V.ref l11, V.int ((10 : Int) ^ (60 : Int).toNat)]) stl11 nLi (fun _ z => by cases z)
    have smLi : Same Ml11 (upd Ml11 Li (HO.lst [V.int 0, V.int 1, V.int 2, V.int (0 - 1), V.non, V.bl true, V.bl false, V.str (Str.ofString "0"), V.ref l10, V.ref l11, V.int ((10 : Int) ^ (60 : Int).toNat)])) := Same.new (st_none stl11 nLi)
    have eLi : upd Ml11 Li (HO.lst [V.int 0, V.int 1, V.int 2, V.int (0 - 1), V.non, V.bl true, V.bl false, V.str (Str.ofString "0"), V.ref l10, V.ref l11, V.int ((10 : Int) ^ (60 : Int).toNat)]) Li = some (HO.lst [V.int 0, V.int 1, V.int 2, V.int (0 - 1), V.non, V.bl true, V.bl false, V.str (Str.ofString "0"), V.ref l10, V.ref l11, V.int ((10 : Int) ^ (60 : Int).toNat)]) := upd_same
    generalize upd Ml11 Li (HO.lst [V.int 0, V.int 1, V.int 2, V.int (0 - 1), V.non, V.bl true, V.bl false, V.str (Str.ofString "0"), V.ref l10, V.ref l11, V.int ((10 : Int) ^ (60 : Int).toNat)]) = MLi at *
    generalize upd Hl11 Li (HO.lst [V.int 0, V.int 1, V.int 2, V.int (0 - 1), V.non, V.bl true, V.bl false, V.str (Str.ofString "0"), V.ref l10, V.ref l11, V.int ((10 : Int) ^ (60 : Int).toNat)]) = HLi at *
    replace hgM := hgM.same smLi
    replace smA := smA.trans smLi
    replace hgA := hgA.same smLi
    replace hv := hv.same smLi
    replace nvxm := nvxm.same smLi
    replace el10 := smLi _ _ el10
    replace dl10 := dp_same smLi dl10
    replace el11 := smLi _ _ el11
    replace dl11 := dp_same smLi dl11
    replace nvi := allN_same nvi smLi
    clear el10 dl10 el11 dl11
    have lenxsi : ([V.int 0, V.int 1, V.int 2, V.int (0 - 1), V.non, V.bl true, V.bl false, V.str (Str.ofString "0"), V.ref l10, V.ref l11, V.int ((10 : Int) ^ (60 : Int).toNat)] : List V).length = 11 := rfl
    generalize ([V.int 0, V.int 1, V.int 2, V.int (0 - 1), V.non, V.bl true, V.bl false, V.str (Str.ofString "0"), V.ref l10, V.ref l11, V.int ((10 : Int) ^ (60 : Int).toNat)] : List V) = xsi at eLi nvi lenxsi
    have neLi : Li ≠ p := fun z => by rw [z, stLi.mp] at eLi; cases eLi
    refine ⟨p, Li, xsi, rfl, stLi.die, .inl (stLi.same _ _ eLi), neLi, by rw [lenxsi]; decide, by rw [lenxsi]; decide, fun xi HPxi hxi gotxi => ?_⟩
    have stPxi := stLi.got gotxi
    obtain ⟨di, nvxi⟩ := nvi xi hxi
    clear nvi eLi hxi gotxi neLi
    refine ⟨_, rfl, by show 0 ≤ sizeLine; decide, fun l13 n13 => ?_⟩
    have stl13 := st_new (o := HO.tup []) stPxi n13 (fun _ z => by cases z)
    have sml13 : Same MLi (upd MLi l13 (HO.tup [])) := Same.new (st_none stPxi n13)
    have el13 : upd MLi l13 (HO.tup []) l13 = some (HO.tup []) := upd_same
    generalize upd MLi l13 (HO.tup []) = Ml13 at *
    generalize upd HPxi l13 (HO.tup []) = Hl13 at *
    replace hgM := hgM.same sml13
    replace smA := smA.trans sml13
    replace hgA := hgA.same sml13
    replace hv := hv.same sml13
    replace nvxm := nvxm.same sml13
    replace nvxi := nvxi.same sml13
    have dl13 : Dp K Ml13 (.ref l13) (PyData.tuple []) := .tup (SqT.of el13) .nil
    refine ⟨by show 0 ≤ sizeLine; decide, fun l14 n14 => ?_⟩
    have stl14 := st_new (o := HO.lst []) stl13 n14 (fun _ z => by cases z)
    have sml14 : Same Ml13 (upd Ml13 l14 (HO.lst [])) := Same.new (st_none stl13 n14)
    have el14 : upd Ml13 l14 (HO.lst []) l14 = some (HO.lst []) := upd_same
    generalize upd Ml13 l14 (HO.lst []) = Ml14 at *
    generalize upd Hl13 l14 (HO.lst []) = Hl14 at *
    replace hgM := hgM.same sml14
    replace smA := smA.trans sml14
    replace hgA := hgA.same sml14
    replace hv := hv.same sml14
    replace nvxm := nvxm.same sml14
    replace nvxi := nvxi.same sml14
    replace el13 := sml14 _ _ el13
    replace dl13 := dp_same sml14 dl13
    have dl14 : Dp K Ml14 (.ref l14) (PyData.list []) := .lst (SqL.of el14) .nil
    have nvt : ∀ x ∈ [V.non, V.bl true, V.str (Str.ofString "1"), V.ref l13, V.ref l14, V.int B], ∃ d, NV K Ml14 x d := by
      simp only [List.forall_mem_cons, List.not_mem_nil, false_implies, implies_true, and_true]
      refine ⟨⟨_, nv_flat .non (by decide +kernel) (by decide +kernel) (by decide +kernel) (by decide +kernel) (by decide +kernel)⟩, ⟨_, nv_flat (.bl _) (by decide +kernel) (by decide +kernel) (by decide +kernel) (by decide +kernel) (by decide +kernel)⟩, ⟨_, nv_flat (.str _) (by decide +kernel) (by decide +kernel) (by decide +kernel) (by decide +kernel) (by decide +kernel)⟩, ⟨_, nv_flat dl13 (by decide +kernel) (by decide +kernel) (by decide +kernel) (by decide +kernel) (by decide +kernel)⟩, ⟨_, nv_flat dl14 (by decide +kernel) (by decide +kernel) (by decide +kernel) (by decide +kernel) (by decide +kernel)⟩, ⟨_, nv_int B_lt⟩⟩
    refine ⟨rfl, by show 6 ≤ sizeLine; decide, fun Lt nLt => ?_⟩
    have stLt := st_new (o := HO.lst [V.non, V.bl true, V.str (Str.ofString "1"), V.ref l13, V.ref l14, V.int B]) stl14 nLt (fun _ z => by cases z)
    have smLt : Same Ml14 (upd Ml14 Lt (HO.lst [V.non, V.bl true, V.str (Str.ofString "1"), V.ref l13, V.ref l14, V.int B])) := Same.new (st_none stl14 nLt)
    have eLt : upd Ml14 Lt (HO.lst [V.non, V.bl true, V.str (Str.ofString "1"), V.ref l13, V.ref l14, V.int B]) Lt = some (HO.lst [V.non, V.bl true, V.str (Str.ofString "1"), V.ref l13, V.ref l14, V.int B]) := upd_same
    generalize upd Ml14 Lt (HO.lst [V.non, V.bl true, V.str (Str.ofString "1"), V.ref l13, V.ref l14, V.int B]) = MLt at *
    generalize upd Hl14 Lt (HO.lst [V.non, V.bl true, V.str (Str.ofString "1"), V.ref l13, V.ref l14, V.int B]) = HLt at *
    replace hgM := hgM.same smLt
    replace smA := smA.trans smLt
    replace hgA := hgA.same smLt
    replace hv := hv.same smLt
    replace nvxm := nvxm.same smLt
    replace nvxi := nvxi.same smLt
    replace el13 := smLt _ _ el13
    replace dl13 := dp_same smLt dl13
    replace el14 := smLt _ _ el14
    replace dl14 := dp_same smLt dl14
    replace nvt := allN_same nvt smLt
    clear el13 dl13 el14 dl14
    have nit : ∀ x ∈ [V.non, V.bl true, V.str (Str.ofString "1"), V.ref l13, V.ref l14, V.int B], isIntV x = false := by
      simp only [List.forall_mem_cons, List.not_mem_nil, false_implies, implies_true, and_true]
      exact ⟨rfl, rfl, rfl, rfl, rfl, isInt_B⟩
    have lenxst : ([V.non, V.bl true, V.str (Str.ofString "1"), V.ref l13, V.ref l14, V.int B] : List V).length = 6 := rfl
    generalize ([V.non, V.bl true, V.str (Str.ofString "1"), V.ref l13, V.ref l14, V.int B] : List V) = xst at eLt nvt nit lenxst
    have neLt : Lt ≠ p := fun z => by rw [z, stLt.mp] at eLt; cases eLt
    refine ⟨p, Lt, xst, rfl, stLt.die, .inl (stLt.same _ _ eLt), neLt, by rw [lenxst]; decide, by rw [lenxst]; decide, fun xt HPxt hxt gotxt => ?_⟩
    have stPxt := stLt.got gotxt
    obtain ⟨dt, nvxt⟩ := nvt xt hxt
    have nixt := nit xt hxt
    clear nvt eLt hxt gotxt neLt nit
    refine met_g (w := wordB (letV xm) dm) (G := Gt cT p MLt none) stPxt.tabs (fun H1 ex tb => (Gt.none stPxt).met ex tb) (fun H1 g1 E1 Q1 ok bad => ?_) (fun HAb0 gAb0 => ?_)
    · have hv1 := hv.same g1.same
      have nm1 := nvxm.same g1.same
      have ni1 := nvxi.same g1.same
      have nt1 := nvxt.same g1.same
      obtain ⟨dv1, gv1, av1, ev1, hgv1, pv1⟩ := id hv1
      have hg1 := hgM.same g1.same
      exact ⟨_, rfl, v, CV, dv1, _, rfl, .inl rfl, ev1, rfl, _, rfl, v, CV, t, (3, 4), xm, _, rfl, .inl rfl, hv1, dr_of nm1.1, sm34, (fun m e le => ⟨fun j hj => pw_sm t (Nat.le_trans hj le), fun r H2 nr s2 _ => ok (wordB_t (by rw [e]; exact let_nat le)) (.ref r) H2 (g1.ext s2)⟩), fun no d nd => bad _ _ _ (g1.ext (Same.new nd)) (by rw [wordB_f (let_no no)]; exact .num upd_same (nm1.2.1.same (Same.new nd)))⟩
    have stAb0 := gAb0.st
    refine ⟨by show 1 ≤ sizeLine; decide, fun Ltb nLtb => ?_⟩
    have nLMb := st_none stAb0 nLtb
    have neLtb := die_new stAb0.die nLtb
    have stBb0 := St.over (o := HO.lst [V.str (wordB (letV xm) dm)]) stAb0 nLMb neLtb (.inl nLtb)
    have eLb0 : upd HAb0 Ltb (HO.lst [V.str (wordB (letV xm) dm)]) Ltb = some (HO.lst [V.str (wordB (letV xm) dm)]) := upd_same
    generalize upd HAb0 Ltb (HO.lst [V.str (wordB (letV xm) dm)]) = HBb0 at *
    refine ⟨_, rfl, .inl ⟨rfl, _, SqL.of eLb0⟩, ?_⟩
    refine met_g (w := wordB (ixV xi) di) (G := Gt cT p MLt (some (Ltb, [V.str (wordB (letV xm) dm)]))) stBb0.tabs (fun H1 ex tb => (Gt.some stBb0 eLb0 neLtb).met ex tb) (fun H1 g1 E1 Q1 ok bad => ?_) (fun HAb1 gAb1 => ?_)
    · have hv1 := hv.same g1.same
      have nm1 := nvxm.same g1.same
      have ni1 := nvxi.same g1.same
      have nt1 := nvxt.same g1.same
      obtain ⟨dv1, gv1, av1, ev1, hgv1, pv1⟩ := id hv1
      have hg1 := hgM.same g1.same
      exact ⟨_, rfl, _, rfl, v, CV, dv1, _, rfl, .inl rfl, ev1, v, CV, t, (3, 4), xi, _, rfl, .inl rfl, hv1, dr_of ni1.1, (fun z x => ok (wordB_t (ix_t z)) x H1 g1), fun no d nd => bad _ _ _ (g1.ext (Same.new nd)) (by rw [wordB_f (ix_f no)]; exact .num upd_same (ni1.2.1.same (Same.new nd)))⟩
    have stAb1 := gAb1.st
    have eAb1 := (gAb1.told _ _ rfl).1
    refine ⟨Ltb, _, _, rfl, rfl, eAb1, by show 1 < sizeLine; decide, ?_⟩
    have stBb1 := St.over (o := HO.lst ([V.str (wordB (letV xm) dm)] ++ [V.str (wordB (ixV xi) di)])) stAb1 nLMb neLtb (.inr ⟨_, eAb1⟩)
    have eLb1 : upd HAb1 Ltb (HO.lst ([V.str (wordB (letV xm) dm)] ++ [V.str (wordB (ixV xi) di)])) Ltb = some (HO.lst [V.str (wordB (letV xm) dm), V.str (wordB (ixV xi) di)]) := upd_same
    generalize upd HAb1 Ltb (HO.lst ([V.str (wordB (letV xm) dm)] ++ [V.str (wordB (ixV xi) di)])) = HBb1 at *
    refine ⟨_, rfl, .inl ⟨rfl, _, SqL.of eLb1⟩, ?_⟩
    refine met_g (w := Str.ofString "number " ++ dt.shown) (G := Gt cT p MLt (some (Ltb, [V.str (wordB (letV xm) dm), V.str (wordB (ixV xi) di)]))) stBb1.tabs (fun H1 ex tb => (Gt.some stBb1 eLb1 neLtb).met ex tb) (fun H1 g1 E1 Q1 ok bad => ?_) (fun HAb2 gAb2 => ?_)
    · have hv1 := hv.same g1.same
      have nm1 := nvxm.same g1.same
      have ni1 := nvxi.same g1.same
      have nt1 := nvxt.same g1.same
      obtain ⟨dv1, gv1, av1, ev1, hgv1, pv1⟩ := id hv1
      have hg1 := hgM.same g1.same
      exact ⟨_, rfl, v, CV, dv1, _, rfl, .inl rfl, ev1, rfl, _, rfl, v, CV, t, (3, 4), xt, _, rfl, .inl rfl, hv1, dr_of nt1.1, nixt, fun d nd => bad _ _ _ (g1.ext (Same.new nd)) (.num upd_same (nt1.2.1.same (Same.new nd)))⟩
    have stAb2 := gAb2.st
    have eAb2 := (gAb2.told _ _ rfl).1
    refine ⟨Ltb, _, _, rfl, rfl, eAb2, by show 2 < sizeLine; decide, ?_⟩
    have stBb2 := St.over (o := HO.lst ([V.str (wordB (letV xm) dm), V.str (wordB (ixV xi) di)] ++ [V.str (Str.ofString "number " ++ dt.shown)])) stAb2 nLMb neLtb (.inr ⟨_, eAb2⟩)
    have eLb2 : upd HAb2 Ltb (HO.lst ([V.str (wordB (letV xm) dm), V.str (wordB (ixV xi) di)] ++ [V.str (Str.ofString "number " ++ dt.shown)])) Ltb = some (HO.lst [V.str (wordB (letV xm) dm), V.str (wordB (ixV xi) di), V.str (Str.ofString "number " ++ dt.shown)]) := upd_same
    generalize upd HAb2 Ltb (HO.lst ([V.str (wordB (letV xm) dm), V.str (wordB (ixV xi) di)] ++ [V.str (Str.ofString "number " ++ dt.shown)])) = HBb2 at *
    refine ⟨_, rfl, .inl ⟨rfl, _, SqL.of eLb2⟩, ?_⟩
    refine met_g (w := Str.ofString "quotient (0, 0)") (G := Gt cT p MLt (some (Ltb, [V.str (wordB (letV xm) dm), V.str (wordB (ixV xi) di), V.str (Str.ofString "number " ++ dt.shown)]))) stBb2.tabs (fun H1 ex tb => (Gt.some stBb2 eLb2 neLtb).met ex tb) (fun H1 g1 E1 Q1 ok bad => ?_) (fun HAb3 gAb3 => ?_)
    · have hv1 := hv.same g1.same
      have nm1 := nvxm.same g1.same
      have ni1 := nvxi.same g1.same
      have nt1 := nvxt.same g1.same
      obtain ⟨dv1, gv1, av1, ev1, hgv1, pv1⟩ := id hv1
      have hg1 := hgM.same g1.same
      refine ⟨_, rfl, _, rfl, by show 2 ≤ sizeLine; decide, fun TA nTA => ?_⟩
      have sTA := Same.new (o := HO.tup [V.int 0, V.int 0]) nTA
      have eTA : upd H1 TA (HO.tup [V.int 0, V.int 0]) TA = some (HO.tup [V.int 0, V.int 0]) := upd_same
      have g2 := g1.ext sTA
      have hg2 := hg1.same sTA
      have hv2 := hv1.same sTA
      clear ev1 pv1 hgv1
      generalize upd H1 TA (HO.tup [V.int 0, V.int 0]) = H2 at *
      refine fun w dw nw ndw ne => ?_
      have s1 := (Same.new (o := HO.own w) ndw).trans (Same.new (o := HO.ins CV dw []) (by rw [upd_ne ne.symm]; exact nw))
      refine ⟨w, dw, _, _, rfl, upd_same, .inr (.inr ⟨g, t, TA, (0, 0), rfl, rfl, hg2.same s1, PAt.of (s1 _ _ eTA), ok00, fun H4 hk eH => ⟨rfl, ?_⟩⟩)⟩
      have s4 : Same H2 H4 := same_made nw ndw hk
      have hw4 : VecAt K C U CV H4 w t (0, 0) := ⟨dw, g, TA, eH, hg2.same s4, (PAt.of (u := (0, 0)) eTA).same s4⟩
      have hv4 := hv2.same s4
      have g4 := g2.ext s4
      obtain ⟨dv4, gv4, av4, ev4, hgv4, pv4⟩ := id hv4
      obtain ⟨sa, sb, sc, sd⟩ := smX t (0, 0) (by decide)
      refine ⟨v, CV, dv4, _, rfl, .inl rfl, ev4, .inr (.inl ⟨w, CV, dw, _, rfl, .inl rfl, eH⟩), v, CV, t, (3, 4), .ref w, rfl, .inl rfl, hv4, .inr ⟨w, CV, (0, 0), rfl, .inl rfl, hw4, sm34, sa, sb, sc, sd, ?_, ?_⟩⟩
      · refine fun _ d a H5 s5 nd pa => bad _ _ _ (g4.ext (s5.trans (Same.new nd))) ?_
        rw [← quo_shown]
        exact .quo upd_same (pt_sh (pa.same (Same.new nd)) (by decide) (by decide))
      · exact fun q e => by rw [quo00] at e; cases e
    have stAb3 := gAb3.st
    have eAb3 := (gAb3.told _ _ rfl).1
    refine ⟨Ltb, _, _, rfl, rfl, eAb3, by show 3 < sizeLine; decide, ?_⟩
    have stBb3 := St.over (o := HO.lst ([V.str (wordB (letV xm) dm), V.str (wordB (ixV xi) di), V.str (Str.ofString "number " ++ dt.shown)] ++ [V.str (Str.ofString "quotient (0, 0)")])) stAb3 nLMb neLtb (.inr ⟨_, eAb3⟩)
    have eLb3 : upd HAb3 Ltb (HO.lst ([V.str (wordB (letV xm) dm), V.str (wordB (ixV xi) di), V.str (Str.ofString "number " ++ dt.shown)] ++ [V.str (Str.ofString "quotient (0, 0)")])) Ltb = some (HO.lst [V.str (wordB (letV xm) dm), V.str (wordB (ixV xi) di), V.str (Str.ofString "number " ++ dt.shown), V.str (Str.ofString "quotient (0, 0)")]) := upd_same
    generalize upd HAb3 Ltb (HO.lst ([V.str (wordB (letV xm) dm), V.str (wordB (ixV xi) di), V.str (Str.ofString "number " ++ dt.shown)] ++ [V.str (Str.ofString "quotient (0, 0)")])) = HBb3 at *
    refine ⟨_, rfl, .inl ⟨rfl, _, SqL.of eLb3⟩, ?_⟩
    refine met_g (w := Str.ofString "quotient (7, 5)") (G := Gt cT p MLt (some (Ltb, [V.str (wordB (letV xm) dm), V.str (wordB (ixV xi) di), V.str (Str.ofString "number " ++ dt.shown), V.str (Str.ofString "quotient (0, 0)")]))) stBb3.tabs (fun H1 ex tb => (Gt.some stBb3 eLb3 neLtb).met ex tb) (fun H1 g1 E1 Q1 ok bad => ?_) (fun HAb4 gAb4 => ?_)
    · have hv1 := hv.same g1.same
      have nm1 := nvxm.same g1.same
      have ni1 := nvxi.same g1.same
      have nt1 := nvxt.same g1.same
      obtain ⟨dv1, gv1, av1, ev1, hgv1, pv1⟩ := id hv1
      have hg1 := hgM.same g1.same
      refine ⟨_, rfl, _, rfl, by show 2 ≤ sizeLine; decide, fun TA nTA => ?_⟩
      have sTA := Same.new (o := HO.tup [V.int 7, V.int 5]) nTA
      have eTA : upd H1 TA (HO.tup [V.int 7, V.int 5]) TA = some (HO.tup [V.int 7, V.int 5]) := upd_same
      have g2 := g1.ext sTA
      have hg2 := hg1.same sTA
      have hv2 := hv1.same sTA
      clear ev1 pv1 hgv1
      generalize upd H1 TA (HO.tup [V.int 7, V.int 5]) = H2 at *
      refine fun w dw nw ndw ne => ?_
      have s1 := (Same.new (o := HO.own w) ndw).trans (Same.new (o := HO.ins CV dw []) (by rw [upd_ne ne.symm]; exact nw))
      refine ⟨w, dw, _, _, rfl, upd_same, .inr (.inr ⟨g, t, TA, (7, 5), rfl, rfl, hg2.same s1, PAt.of (s1 _ _ eTA), ok75, fun H4 hk eH => ⟨rfl, ?_⟩⟩)⟩
      have s4 : Same H2 H4 := same_made nw ndw hk
      have hw4 : VecAt K C U CV H4 w t (7, 5) := ⟨dw, g, TA, eH, hg2.same s4, (PAt.of (u := (7, 5)) eTA).same s4⟩
      have hv4 := hv2.same s4
      have g4 := g2.ext s4
      obtain ⟨dv4, gv4, av4, ev4, hgv4, pv4⟩ := id hv4
      obtain ⟨sa, sb, sc, sd⟩ := smX t (7, 5) (by decide)
      refine ⟨v, CV, dv4, _, rfl, .inl rfl, ev4, .inr (.inl ⟨w, CV, dw, _, rfl, .inl rfl, eH⟩), v, CV, t, (3, 4), .ref w, rfl, .inl rfl, hv4, .inr ⟨w, CV, (7, 5), rfl, .inl rfl, hw4, sm34, sa, sb, sc, sd, ?_, ?_⟩⟩
      · refine fun _ d a H5 s5 nd pa => bad _ _ _ (g4.ext (s5.trans (Same.new nd))) ?_
        rw [← quo_shown75]
        exact .quo upd_same (pt_sh (pa.same (Same.new nd)) (by decide) (by decide))
      · exact fun q e => by rw [quo75] at e; cases e
    have stAb4 := gAb4.st
    have eAb4 := (gAb4.told _ _ rfl).1
    refine ⟨Ltb, _, _, rfl, rfl, eAb4, by show 4 < sizeLine; decide, ?_⟩
    have stBb4 := St.over (o := HO.lst ([V.str (wordB (letV xm) dm), V.str (wordB (ixV xi) di), V.str (Str.ofString "number " ++ dt.shown), V.str (Str.ofString "quotient (0, 0)")] ++ [V.str (Str.ofString "quotient (7, 5)")])) stAb4 nLMb neLtb (.inr ⟨_, eAb4⟩)
    have eLb4 : upd HAb4 Ltb (HO.lst ([V.str (wordB (letV xm) dm), V.str (wordB (ixV xi) di), V.str (Str.ofString "number " ++ dt.shown), V.str (Str.ofString "quotient (0, 0)")] ++ [V.str (Str.ofString "quotient (7, 5)")])) Ltb = some (HO.lst [V.str (wordB (letV xm) dm), V.str (wordB (ixV xi) di), V.str (Str.ofString "number " ++ dt.shown), V.str (Str.ofString "quotient (0, 0)"), V.str (Str.ofString "quotient (7, 5)")]) := upd_same
    generalize upd HAb4 Ltb (HO.lst ([V.str (wordB (letV xm) dm), V.str (wordB (ixV xi) di), V.str (Str.ofString "number " ++ dt.shown), V.str (Str.ofString "quotient (0, 0)")] ++ [V.str (Str.ofString "quotient (7, 5)")])) = HBb4 at *
    refine ⟨_, rfl, .inl ⟨rfl, _, SqL.of eLb4⟩, ?_⟩
    refine met_g (w := Str.ofString "") (G := Gt cT p MLt (some (Ltb, [V.str (wordB (letV xm) dm), V.str (wordB (ixV xi) di), V.str (Str.ofString "number " ++ dt.shown), V.str (Str.ofString "quotient (0, 0)"), V.str (Str.ofString "quotient (7, 5)")]))) stBb4.tabs (fun H1 ex tb => (Gt.some stBb4 eLb4 neLtb).met ex tb) (fun H1 g1 E1 Q1 ok bad => ?_) (fun HAb5 gAb5 => ?_)
    · have hv1 := hv.same g1.same
      have nm1 := nvxm.same g1.same
      have ni1 := nvxi.same g1.same
      have nt1 := nvxt.same g1.same
      obtain ⟨dv1, gv1, av1, ev1, hgv1, pv1⟩ := id hv1
      have hg1 := hgM.same g1.same
      refine ⟨_, rfl, _, rfl, by show 2 ≤ sizeLine; decide, fun TA nTA => ?_⟩
      have sTA := Same.new (o := HO.tup [V.int 1, V.int 0]) nTA
      have eTA : upd H1 TA (HO.tup [V.int 1, V.int 0]) TA = some (HO.tup [V.int 1, V.int 0]) := upd_same
      have g2 := g1.ext sTA
      have hg2 := hg1.same sTA
      have hv2 := hv1.same sTA
      clear ev1 pv1 hgv1
      generalize upd H1 TA (HO.tup [V.int 1, V.int 0]) = H2 at *
      refine fun w dw nw ndw ne => ?_
      have s1 := (Same.new (o := HO.own w) ndw).trans (Same.new (o := HO.ins CV dw []) (by rw [upd_ne ne.symm]; exact nw))
      refine ⟨w, dw, _, _, rfl, upd_same, .inr (.inr ⟨g, t, TA, (1, 0), rfl, rfl, hg2.same s1, PAt.of (s1 _ _ eTA), ok10, fun H4 hk eH => ⟨rfl, ?_⟩⟩)⟩
      have s4 : Same H2 H4 := same_made nw ndw hk
      have hw4 : VecAt K C U CV H4 w t (1, 0) := ⟨dw, g, TA, eH, hg2.same s4, (PAt.of (u := (1, 0)) eTA).same s4⟩
      have hv4 := hv2.same s4
      have g4 := g2.ext s4
      obtain ⟨dv4, gv4, av4, ev4, hgv4, pv4⟩ := id hv4
      obtain ⟨sa, sb, sc, sd⟩ := smX t (1, 0) (by decide)
      refine ⟨v, CV, dv4, _, rfl, .inl rfl, ev4, .inr (.inl ⟨w, CV, dw, _, rfl, .inl rfl, eH⟩), v, CV, t, (3, 4), .ref w, rfl, .inl rfl, hv4, .inr ⟨w, CV, (1, 0), rfl, .inl rfl, hw4, sm34, sa, sb, sc, sd, ?_, ?_⟩⟩
      · exact fun e => by rw [quo10] at e; cases e
      · intro q e
        rw [quo10] at e
        cases e
        exact ⟨sm34, fun r H5 nr s5 _ => ok rfl (.ref r) H5 (g4.ext s5)⟩
    have stAb5 := gAb5.st
    have eAb5 := (gAb5.told _ _ rfl).1
    refine ⟨Ltb, _, _, rfl, rfl, eAb5, by show 5 < sizeLine; decide, ?_⟩
    have stBb5 := St.over (o := HO.lst ([V.str (wordB (letV xm) dm), V.str (wordB (ixV xi) di), V.str (Str.ofString "number " ++ dt.shown), V.str (Str.ofString "quotient (0, 0)"), V.str (Str.ofString "quotient (7, 5)")] ++ [V.str (Str.ofString "")])) stAb5 nLMb neLtb (.inr ⟨_, eAb5⟩)
    have eLb5 : upd HAb5 Ltb (HO.lst ([V.str (wordB (letV xm) dm), V.str (wordB (ixV xi) di), V.str (Str.ofString "number " ++ dt.shown), V.str (Str.ofString "quotient (0, 0)"), V.str (Str.ofString "quotient (7, 5)")] ++ [V.str (Str.ofString "")])) Ltb = some (HO.lst [V.str (wordB (letV xm) dm), V.str (wordB (ixV xi) di), V.str (Str.ofString "number " ++ dt.shown), V.str (Str.ofString "quotient (0, 0)"), V.str (Str.ofString "quotient (7, 5)"), V.str (Str.ofString "")]) := upd_same
    generalize upd HAb5 Ltb (HO.lst ([V.str (wordB (letV xm) dm), V.str (wordB (ixV xi) di), V.str (Str.ofString "number " ++ dt.shown), V.str (Str.ofString "quotient (0, 0)"), V.str (Str.ofString "quotient (7, 5)")] ++ [V.str (Str.ofString "")])) = HBb5 at *
    refine tIf_cut (w := wordB (letV xm) dm) (fun Q1 q => ?_) ?_
    · have nv := nvxm.same stBb5.same
      refine ⟨_, rfl, _, rfl, ?_⟩
      cases hl : letV xm with
      | true => rw [wordB_t hl] at q; exact iteT q
      | false =>
        rw [wordB_f hl] at q
        have ln : (Str.ofString "number ").length = 7 := by decide
        have lv := nv.2.1.len
        exact iteF ⟨_, rfl, _, dm, rfl, nv.2.1.rp, Nat.le_trans nv.2.1.dep (by decide), nv.2.1.lenS, _, _, rfl, rfl, by rw [ln, sizeLine_eq]; omega, q⟩
    refine ⟨by show 1 ≤ sizeLine; decide, fun LD nLD => ?_⟩
    have nDM := st_none stBb5 nLD
    have neLD := die_new stBb5.die nLD
    have stD := St.over (o := HO.lst [V.str (wordB (letV xm) dm)]) stBb5 nDM neLD (.inl nLD)
    have eD : upd HBb5 LD (HO.lst [V.str (wordB (letV xm) dm)]) LD = some (HO.lst [V.str (wordB (letV xm) dm)]) := upd_same
    have eT : upd HBb5 LD (HO.lst [V.str (wordB (letV xm) dm)]) Ltb = _ := new_keep2 nLD eLb5
    have nDT : LD ≠ Ltb := fun z => by rw [z, eLb5] at nLD; cases nLD
    generalize upd HBb5 LD (HO.lst [V.str (wordB (letV xm) dm)]) = HD at *
    refine ⟨_, rfl, .inl ⟨rfl, _, SqL.of eD⟩, tIf_strS (w := wordB (ixV xi) di) (fun Q1 q => ?_) (fun HE sE => ?_)⟩
    · have nv := nvxi.same stD.same
      have ln : (Str.ofString "number ").length = 7 := by decide
      have lv := nv.2.1.len
      refine ⟨_, rfl, xi, _, rfl, dr_of nv.1, _, rfl, ?_⟩
      cases hi : isIntV xi with
      | false =>
        rw [wordB_f (ix_odd hi)] at q
        exact iteF (iteF ⟨_, rfl, _, di, rfl, nv.2.1.rp, Nat.le_trans nv.2.1.dep (by decide), nv.2.1.lenS, _, _, rfl, rfl, by rw [ln, sizeLine_eq]; omega, q _ same_id⟩)
      | true =>
        obtain ⟨n, rfl⟩ := int_of hi
        refine iteT ⟨_, rfl, by show 2 ≤ sizeLine; decide, fun TQ nTQ => ?_⟩
        have sTQ := Same.new (o := HO.tup [V.int 0, V.int 1]) nTQ
        have nw := nv.same sTQ
        refine ⟨TQ, _, rfl, .inr (SqT.of upd_same), rfl, rfl, _, rfl, ?_⟩
        rw [ix_in]
        cases hx : ixV (.int n) with
        | true => rw [wordB_t hx] at q; exact iteT (q _ sTQ)
        | false =>
          rw [wordB_f hx] at q
          exact iteF ⟨_, rfl, _, di, rfl, nw.2.1.rp, Nat.le_trans nw.2.1.dep (by decide), nw.2.1.lenS, _, _, rfl, rfl, by rw [ln, sizeLine_eq]; omega, q _ sTQ⟩
    have stE := stD.ext sE
    have eDE := sE _ _ eD
    have eTE := sE _ _ eT
    refine ⟨LD, _, _, rfl, rfl, eDE, by show 1 < sizeLine; decide, ?_⟩
    have stF := St.over (o := HO.lst ([V.str (wordB (letV xm) dm)] ++ [V.str (wordB (ixV xi) di)])) stE nDM neLD (.inr ⟨_, eDE⟩)
    have eF : upd HE LD (HO.lst ([V.str (wordB (letV xm) dm)] ++ [V.str (wordB (ixV xi) di)])) LD = some (HO.lst [V.str (wordB (letV xm) dm), V.str (wordB (ixV xi) di)]) := upd_same
    have eTF : upd HE LD (HO.lst ([V.str (wordB (letV xm) dm)] ++ [V.str (wordB (ixV xi) di)])) Ltb = _ := (upd_ne nDT.symm).trans eTE
    generalize upd HE LD (HO.lst ([V.str (wordB (letV xm) dm)] ++ [V.str (wordB (ixV xi) di)])) = HF at *
    have nv := nvxt.same stF.same
    have ln : (Str.ofString "number ").length = 7 := by decide
    have lv := nv.2.1.len
    refine ⟨_, rfl, _, rfl, _, rfl, _, dt, rfl, nv.2.1.rp, Nat.le_trans nv.2.1.dep (by decide), nv.2.1.lenS, _, _, rfl, rfl, by rw [ln, sizeLine_eq]; omega, by show 4 ≤ sizeLine; decide, fun LY nLY => ?_⟩
    have sLY := Same.new (o := HO.lst [V.str (Str.ofString "number " ++ dt.shown), V.str (Str.ofString "quotient (0, 0)"), V.str (Str.ofString "quotient (7, 5)"), V.str (Str.ofString "")]) nLY
    have eY : upd HF LY (HO.lst [V.str (Str.ofString "number " ++ dt.shown), V.str (Str.ofString "quotient (0, 0)"), V.str (Str.ofString "quotient (7, 5)"), V.str (Str.ofString "")]) LY = some (HO.lst [V.str (Str.ofString "number " ++ dt.shown), V.str (Str.ofString "quotient (0, 0)"), V.str (Str.ofString "quotient (7, 5)"), V.str (Str.ofString "")]) := upd_same
    have eF2 := sLY _ _ eF
    have eT2 := sLY _ _ eTF
    have stY := stF.ext sLY
    generalize upd HF LY (HO.lst [V.str (Str.ofString "number " ++ dt.shown), V.str (Str.ofString "quotient (0, 0)"), V.str (Str.ofString "quotient (7, 5)"), V.str (Str.ofString "")]) = HY at *
    refine ⟨LD, LY, _, _, rfl, rfl, eF2, eY, by show 2 + 4 ≤ sizeLine; decide, fun LZ nLZ => ?_⟩
    have sLZ := Same.new (o := HO.lst ([wordB (letV xm) dm, wordB (ixV xi) di, Str.ofString "number " ++ dt.shown, Str.ofString "quotient (0, 0)", Str.ofString "quotient (7, 5)", Str.ofString ""].map V.str)) nLZ
    have okT : ∀ w ∈ [wordB (letV xm) dm, wordB (ixV xi) di, Str.ofString "number " ++ dt.shown, Str.ofString "quotient (0, 0)", Str.ofString "quotient (7, 5)", Str.ofString ""], PyData.strOk w = true := by
      simp only [List.forall_mem_cons, List.not_mem_nil, false_implies, implies_true, and_true]
      exact ⟨wordB_ok nvxm, wordB_ok nvxi, app_ok (by decide +kernel) nvxt.2.2, by decide +kernel, by decide +kernel, by decide +kernel⟩
    refine ⟨.list ([wordB (letV xm) dm, wordB (ixV xi) di, Str.ofString "number " ++ dt.shown, Str.ofString "quotient (0, 0)", Str.ofString "quotient (7, 5)", Str.ofString ""].map PyData.str), .list ([wordB (letV xm) dm, wordB (ixV xi) di, Str.ofString "number " ++ dt.shown, Str.ofString "quotient (0, 0)", Str.ofString "quotient (7, 5)", Str.ofString ""].map PyData.str), .lst (SqL.of (sLZ _ _ eT2)) (dp_strs (ys := [wordB (letV xm) dm, wordB (ixV xi) di, Str.ofString "number " ++ dt.shown, Str.ofString "quotient (0, 0)", Str.ofString "quotient (7, 5)", Str.ofString ""])), .lst (SqL.of upd_same) (dp_strs (ys := [wordB (letV xm) dm, wordB (ixV xi) di, Str.ofString "number " ++ dt.shown, Str.ofString "quotient (0, 0)", Str.ofString "quotient (7, 5)", Str.ofString ""])), strs_lay okT, strs_lay okT, ?_⟩
    rw [strs_refl]
    exact k _ ((stY.ext sLZ).done smA)
end
end K07
namespace K07
open PySem PySem.Spec PyProof.Rows L2 GL PySem.GLE LamX
abbrev s__law_dice : Stmt := topS 35
abbrev N__law_dice : List Str := ["_law_script", "_law_spot", "_law_cell", "_law_left"]
theorem sc__law_dice : FnScope N__law_dice ["_law_script", "_law_spot"] (defScope s__law_dice) := ⟨rfl, rfl, rfl, by decide +kernel, rfl, by decide +kernel, by decide +kernel⟩
abbrev s__law_roll : Stmt := topS 36
abbrev N__law_roll : List Str := ["_law_dice_here", "_law_total", "_law_found", "_law_one", "_law_two"]
theorem sc__law_roll : FnScope N__law_roll ["_law_dice_here", "_law_total"] (defScope s__law_roll) := ⟨rfl, rfl, rfl, by decide +kernel, rfl, by decide +kernel, by decide +kernel⟩
abbrev s__law_pick : Stmt := topS 37
abbrev N__law_pick : List Str := ["_law_dice_here", "_law_items"]
theorem sc__law_pick : FnScope N__law_pick ["_law_dice_here", "_law_items"] (defScope s__law_pick) := ⟨rfl, rfl, rfl, by decide +kernel, rfl, by decide +kernel, by decide +kernel⟩
abbrev s_law : Stmt := topS 46
abbrev N_law : List Str := ["_law_script", "_law_grids", "_law_spot", "_law_dice_here", "_law_at"]
theorem sc_law : FnScope N_law ["_law_script"] (defScope s_law) := ⟨rfl, rfl, rfl, by decide +kernel, rfl, by decide +kernel, by decide +kernel⟩
def noT (H : Hp) : Hp := fun b => match H b with | some (.tbl _) => none | x => x
theorem noT_at {H : Hp} {b : Addr} {o : HO} (e : H b = some o) (nt : ∀ ps, o ≠ .tbl ps) : noT H b = some o := by
  unfold noT
  rw [e]
  cases o <;> first | rfl | exact absurd rfl (nt _)
theorem noT_of {H : Hp} {b : Addr} {o : HO} (e : noT H b = some o) : H b = some o ∧ ∀ ps, o ≠ .tbl ps := by
  unfold noT at e
  split at e
  · cases e
  · rename_i nt
    refine ⟨e, fun ps z => ?_⟩
    subst z
    exact nt _ e
theorem noT_same {H : Hp} : Same (noT H) H := fun b o e => (noT_of e).1
theorem sqL_noT {K : PySem.W.Frag} {H : Hp} {a : Addr} {xs : List V} (h : SqL K H a xs) : SqL K (noT H) a xs := by
  rcases h with (z | ⟨o, z⟩) | z
  · exact .inl (.inl (noT_at z (fun _ z => by cases z)))
  · exact .inl (.inr ⟨o, noT_at z (fun _ z => by cases z)⟩)
  · exact .inr z
theorem _root_.GL.St.gotT {T : List (Addr × Str)} {p : Addr} {M H H' : Hp} (s : GL.St T p M H) (g : GotT T p H H') : GL.St T p M H' := ⟨s.grow.trans g.1, s.mp, s.nt, g.2.1, g.2.2⟩
def spLaw (K : PySem.W.Frag) (cT : List (Addr × Str)) : Sp := fun vs H Q _ => ∃ (a : Addr) (ns : List Int), vs = [.ref a] ∧ SqL K H a (ns.map V.int) ∧ ns.length ≤ 63 ∧ Tabs cT H ∧ ∀ H', Q (.bl true) H'
section
variable {P : Program} {w : World} {K : PySem.W.Frag} {mg : Str → Option Value} {base : Heap}
variable {aG dU C CV CM : Addr} {U : Bool → Addr} {us : Bool → List Addr} {cs : Cs}
variable {cT : List (Addr × Str)}
theorem h_law_dice (T : Txt K mg aG dU C CV CM cs) (D : Df K mg "_law_dice" s__law_dice) : Has P w K mg base CX0 "_law_dice" 1 ["_law_script", "_law_spot"] (spDice K) := by
  refine D.has sc__law_dice (fun vs H Q E h => ?_) (fun kV doc pm an cdv ct us hl => match us, hl with | [_, _], _ => rfl) (fun f cdv A outer s H vs Q E gd hr h => ?_)
  · obtain ⟨a, ns, spot, rfl, _⟩ := h
    rfl
  · obtain ⟨a, ns, spot, rfl, hS, s0, q⟩ := h
    refine ⟨_, (Evl.pss_cut
 (ps_set (i := 2) sc__law_dice.nd rfl (Or.inl rfl) (pe_ifExp (pt_cmpR op_lt (pv 1) (pe_callB call_len_seq (by exact rfl) T.zlen PySem.boot_len (pa_cons (pv 0) pa_nil)) (nomark _)) (pe_callTy call_int1 (by exact rfl) T.zint (by decide +kernel) (pa_cons (pe_ix ix_list (pv 0) (pv 1) (fun _ _ => rfl)) pa_nil)) (pe_op op_add (pe_op op_mul pe_int (pv 1)) pe_int)))
 (pss_cons
 (ps_set (i := 3) sc__law_dice.nd rfl (Or.inl rfl) (pe_op op_mod (pe_callB (call_max2 rfl) (by exact rfl) T.zmax (by decide +kernel) (pa_cons pe_int (pa_cons (pe_op op_sub (pe_callB call_abs (by exact rfl) T.zabs (by decide +kernel) (pa_cons (pv 2) pa_nil)) (pe_op op_pow pe_int pe_int)) pa_nil))) (pe_op op_mulW (pe_op op_pow pe_int pe_int) (pe_op op_pow pe_int pe_int))))
 (pss_one
 (ps_ret (pe_lst (pa_cons (pv 3) (pa_cons (pe_op op_add (pe_op op_add (pe_op op_add (pe_op op_mul (pe_op op_mod (pe_callB call_abs (by exact rfl) T.zabs (by decide +kernel) (pa_cons (pv 2) pa_nil)) pe_int) pe_int) (pe_op op_mul pe_int (pv 1))) (pe_op op_mul pe_int (pe_callTy call_int1 (by exact rfl) T.zint (by decide +kernel) (pa_cons (pe_cmpR op_lt (pv 2) pe_int (nomark _)) pa_nil)))) pe_int) (pa_cons pe_int pa_nil)))))))), ?_⟩
    refine ⟨fun σ' H' => ∃ cell : Int, σ' = [some (.ref a), some (.int spot), some (.int cell), none] ∧ H' = H, ?_, ?_⟩
    · refine ⟨_, rfl, _, rfl, _, _, rfl, .inl hS, _, _, rfl, rfl, _, rfl, ?_⟩
      refine ite2 (fun c1 => ?_) (fun c1 => ?_)
      · have c1' : spot < ((ns.map V.int).length : Int) := of_decide_eq_true c1
        rw [List.length_map] at c1'
        obtain ⟨n, hn⟩ := at_ints s0 c1'
        exact ⟨_, rfl, _, rfl, _, _, _, _, rfl, rfl, hS, hn, .inl ⟨_, rfl, _, rfl, rfl⟩⟩
      · exact ⟨_, rfl, _, _, rfl, rfl, .inl ⟨by decide, by decide⟩, _, _, rfl, rfl, _, rfl, rfl⟩
    rintro _ _ ⟨cell, rfl, rfl⟩
    refine ⟨_, rfl, _, rfl, _, _, rfl, rfl, ⟨by decide, by decide, by decide⟩, _, _, rfl, rfl, _, _, rfl, _, _, rfl, rfl, ⟨by decide, by decide, by decide⟩, _, _, rfl, rfl, ⟨by decide, by decide, by decide⟩, _, _, rfl, rfl, wide_mul (a := 250) (b := 250) (by decide +kernel) (by decide +kernel) (by decide) (by decide) (by decide), _, _, rfl, rfl, by show (0 : Int) < _; decide +kernel, ?_⟩
    refine ⟨_, rfl, _, rfl, _, rfl, _, _, rfl, rfl, by show (0 : Int) < _; decide, _, _, rfl, rfl, .inr ⟨by decide, by decide⟩, _, rfl, _, _, rfl, rfl, .inl ⟨by decide, by decide⟩, _, _, rfl, rfl, _, rfl, _, _, rfl, rfl, .inr ⟨_, rfl, _, _, rfl, rfl, .inl ⟨by decide, by decide⟩, _, _, rfl, rfl, _, _, rfl, rfl, by show 3 ≤ sizeLine; decide, fun p hp => ?_⟩⟩
    exact q p _ hp (fun b o e => by rw [upd_ne (ne_of_none e hp)]; exact e) ⟨_, _, _, Int.emod_nonneg _ (by decide +kernel), upd_same⟩

theorem h_law_roll (T : Txt K mg aG dU C CV CM cs) (D : Df K mg "_law_roll" s__law_roll) : Has P w K mg base CX0 "_law_roll" 1 ["_law_dice_here", "_law_total"] spRoll := by
  refine D.has sc__law_roll (fun vs H Q E h => ?_) (fun kV doc pm an cdv ct us hl => match us, hl with | [_, _], _ => rfl) (fun f cdv A outer s H vs Q E gd hr h => ?_)
  · obtain ⟨p, t, rfl, _⟩ := h
    rfl
  · obtain ⟨p, t, rfl, ⟨l, b, c, l0, hp⟩, t0, tl, q⟩ := h
    refine ⟨_, (pss_cons
 (ps_if (pt_cmpR op_gt (pe_ix ix_list (pv 0) pe_int (fun _ _ => rfl)) pe_int (nomark _)) (pss_cons
 (ps_set (i := 2) sc__law_roll.nd rfl (Or.inl rfl) (pe_op op_mod (pe_callTy call_int1 (by exact rfl) T.zint (by decide +kernel) (pa_cons (pe_ix ix_list (pv 0) pe_int (fun _ _ => rfl)) pa_nil)) (pv 1)))
 (pss_cons
 (ps_asg (pe_op op_fdivW (pe_ix ix_list (pv 0) pe_int (fun _ _ => rfl)) (pv 1)) (pg_sub (pv 0) pe_int set_list))
 (pss_one
 (ps_ret (pv 2))))) pss_nil)
 (pss_cons
 (ps_asg (pe_op op_add (pe_ix ix_list (pv 0) pe_int (fun _ _ => rfl)) pe_int) (pg_sub (pv 0) pe_int set_list))
 (pss_cons
 (ps_set (i := 3) sc__law_roll.nd rfl (Or.inl rfl) (pe_op op_mod (pe_callTy call_int1 (by exact rfl) T.zint (by decide +kernel) (pa_cons (pe_op op_add (pe_ix ix_list (pv 0) pe_int (fun _ _ => rfl)) (pe_op op_mul pe_int (pe_ix ix_list (pv 0) pe_int (fun _ _ => rfl)))) pa_nil)) pe_int))
 (pss_cons
 (ps_set (i := 4) sc__law_roll.nd rfl (Or.inl rfl) (pe_op op_add (pe_op op_mul (pe_op op_mod (pe_callTy call_int1 (by exact rfl) T.zint (by decide +kernel) (pa_cons (pe_op op_add (pe_op op_mul (pv 3) (pv 3)) (pe_op op_mul pe_int (pe_ix ix_list (pv 0) pe_int (fun _ _ => rfl)))) pa_nil)) pe_int) pe_int) (pv 3)))
 (pss_one
 (ps_ret (pe_op op_mod (pe_callTy call_int1 (by exact rfl) T.zint (by decide +kernel) (pa_cons (pe_op op_fdiv (pv 4) pe_int) pa_nil)) (pv 1)))))))), ?_⟩
    have hS : ∀ {H : Hp} {xs}, H p = some (.lst xs) → SqL K H p xs := fun h => SqL.of h
    refine ⟨_, rfl, _, _, _, _, rfl, rfl, hS hp, atI_nat (j := 0) rfl, _, _, rfl, rfl, _, rfl, ?_⟩
    refine ite2 (fun c1 => ?_) (fun c1 => ?_)
    · refine ⟨_, rfl, _, _, _, _, rfl, rfl, hS hp, atI_nat (j := 0) rfl, .inl ⟨_, rfl, _, rfl, _, _, rfl, rfl, t0, ?_⟩⟩
      refine ⟨_, rfl, _, _, _, _, rfl, rfl, hS hp, atI_nat (j := 0) rfl, _, rfl, _, _, rfl, rfl, wide_div t0 tl (by decide) (by decide), _, rfl, _, _, _, _, rfl, rfl, hp, rfl, _, rfl, ?_⟩
      exact q _ _ (Int.emod_nonneg _ (Int.ne_of_gt t0)) (Int.emod_lt_of_pos _ t0) (Got.roll (Int.ediv_nonneg l0 (Int.le_of_lt t0)))
    · refine ⟨_, rfl, _, _, _, _, rfl, rfl, hS hp, atI_nat (j := 2) rfl, _, _, rfl, rfl, _, rfl, _, _, _, _, rfl, rfl, hp, rfl, ?_⟩
      have hp2 : (upd H p (.lst [.int l, .int b, .int (c + 1)])) p = some (.lst [.int l, .int b, .int (c + 1)]) := upd_same
      refine ⟨_, rfl, _, _, _, _, rfl, rfl, hS hp2, atI_nat (j := 1) rfl, _, rfl, _, _, _, _, rfl, rfl, hS hp2, atI_nat (j := 2) rfl, _, _, rfl, rfl, .inl ⟨by decide, by decide⟩, _, _, rfl, rfl, .inl ⟨_, rfl, _, _, rfl, rfl, by show (0 : Int) < _; decide, ?_⟩⟩
      generalize hx : (b + 15485863 * (c + 1)) % 2305843009213693693 = x1
      have x0 : 0 ≤ x1 ∧ x1 < 2305843009213693693 := by rw [← hx]; exact ⟨Int.emod_nonneg _ (by decide), Int.emod_lt_of_pos _ (by decide)⟩
      refine ⟨_, rfl, _, rfl, _, _, rfl, rfl, .inl ⟨by omega, by omega⟩, _, rfl, _, _, _, _, rfl, rfl, hS hp2, atI_nat (j := 2) rfl, _, _, rfl, rfl, .inl ⟨by decide, by decide⟩, _, _, rfl, rfl, .inl ⟨_, rfl, _, _, rfl, rfl, by show (0 : Int) < _; decide, _, _, rfl, rfl, .inr ⟨by decide, by decide⟩, _, rfl, _, _, rfl, rfl, ?_⟩⟩
      refine ⟨_, rfl, _, _, rfl, rfl, ⟨by decide, by decide⟩, .inl ⟨_, rfl, _, rfl, _, _, rfl, rfl, t0, ?_⟩⟩
      exact q _ _ (Int.emod_nonneg _ (Int.ne_of_gt t0)) (Int.emod_lt_of_pos _ t0) (Got.roll l0)

theorem h_law_pick (T : Txt K mg aG dU C CV CM cs) (D : Df K mg "_law_pick" s__law_pick) (h_law_roll : Has P w K mg base CX0 "_law_roll" 1 ["_law_dice_here", "_law_total"] spRoll) : Has P w K mg base CX0 "_law_pick" 2 ["_law_dice_here", "_law_items"] spPick := by
  refine D.has sc__law_pick (fun vs H Q E h => ?_) (fun kV doc pm an cdv ct us hl => match us, hl with | [_, _], _ => rfl) (fun f cdv A outer s H vs Q E gd hr h => ?_)
  · obtain ⟨p, q, xs, rfl, _⟩ := h
    rfl
  · obtain ⟨p, q, xs, rfl, hd, hx, ne, l0, l1, k⟩ := h
    refine ⟨_, (pss_one
 (ps_ret (pe_ix ix_seq (pv 1) (pe_callH h_law_roll gd (hr.mono (by decide)) pass0 (pa_cons (pv 0) (pa_cons (pe_callB call_len_seq (by exact rfl) T.zlen PySem.boot_len (pa_cons (pv 1) pa_nil)) pa_nil))) (fun _ _ => rfl)))), ?_⟩
    have hs : SqL K H q xs ∨ SqT K H q xs := hx.imp SqL.of SqT.of
    refine ⟨_, rfl, _, rfl, _, rfl, _, _, rfl, hs, _, _, rfl, hd, (by omega), Nat.lt_of_le_of_lt (show ((xs.length : Int)).natAbs ≤ 1000 by omega) (by decide), fun r H1 r0 r1 g => ?_⟩
    obtain ⟨j, rfl⟩ : ∃ j : Nat, r = (j : Int) := ⟨r.toNat, by omega⟩
    have hj : j < xs.length := by omega
    have hg : xs[j]? = some xs[j] := List.getElem?_eq_getElem hj
    rcases hx with hx | hx
    · exact .inl ⟨q, xs, _, _, rfl, rfl, SqL.of (g.keep _ _ hx ne), atI_nat hg, k _ _ (List.getElem_mem hj) g⟩
    · exact .inr (.inl ⟨q, xs, _, _, rfl, rfl, SqT.of (g.keep _ _ hx ne), atI_nat hg, k _ _ (List.getElem_mem hj) g⟩)

theorem law_ok (T : Txt K mg aG dU C CV CM cs) (h_law_dice : Has P w K mg base CX0 "_law_dice" 1 ["_law_script", "_law_spot"] (spDice K)) (hGrid : HasGX P w K mg base (L2.CX P w) "Grid" C 3 ["self", "name"] (spInitX K C U cs))
    (h_law_points_right : Has P w K mg base CX0 "_law_points_right" 17 ["_law_dice_here", "_law_grid"] (spPart K C U cT)) (h_law_ends_right : Has P w K mg base CX0 "_law_ends_right" 17 ["_law_dice_here", "_law_grid"] (spPart K C U cT))
    (h_law_vectors_right : Has P w K mg base CX0 "_law_vectors_right" 17 ["_law_dice_here", "_law_grid", "_law_aside"] (spVec K C U cT))
    {f : Addr} {fd : FuncData} (F : Fun K "law" "law" s_law f fd) : FnG P w K mg base CX0 18 f fd ["_law_script"] (spLaw K cT) := by
  refine F.g sc_law (fun vs H Q E h => ?_) (fun cdv A outer s H vs Q E gd hr h => ?_)
  · obtain ⟨a, ns, rfl, _⟩ := h
    rfl
  · obtain ⟨a, ns, rfl, hS, hl, tb, k⟩ := h
    have hu := hr.units
    refine ⟨_, (pss_cons
 (ps_set (i := 1) sc_law.nd rfl (Or.inl rfl) (pe_lst (pa_cons (pe_makeGX hGrid gd (hr.mono (by decide)) passX0 (pa_cons pe_str pa_nil)) (pa_cons (pe_makeGX hGrid gd (hr.mono (by decide)) passX0 (pa_cons pe_str pa_nil)) pa_nil))))
 (pss_cons
 (ps_for PassesOwn.never rfl (pi_range1 (by exact rfl) T.zrange (pa_cons (pe_callB (call_max2 rfl) (by exact rfl) T.zmax (by decide +kernel) (pa_cons pe_int (pa_cons (pe_callB (call_min2 rfl) (by exact rfl) T.zmin (by decide +kernel) (pa_cons pe_int (pa_cons (pe_callB call_len_seq (by exact rfl) T.zlen PySem.boot_len (pa_cons (pv 0) pa_nil)) pa_nil))) pa_nil))) pa_nil)) (pg_name (i := 2) sc_law.nd rfl (Or.inl rfl)) (pss_cons
 (ps_set (i := 3) sc_law.nd rfl (Or.inl rfl) (pe_callH h_law_dice gd (hr.mono (by decide)) pass0 (pa_cons (pv 0) (pa_cons (pv 2) pa_nil))))
 (pss_one
 (ps_for PassesOwn.never rfl (pi_range1 (by exact rfl) T.zrange (pa_cons pe_int pa_nil)) (pg_name (i := 4) sc_law.nd rfl (Or.inl rfl)) (pss_cons
 (ps_if (PW.pt (pw_or (pt_not (pt_val (pe_callH h_law_points_right gd (hr.mono (by decide)) pass0 (pa_cons (pv 3) (pa_cons (pe_ix ix_list (pv 1) (pv 4) (fun _ _ => rfl)) pa_nil))))) (pw_or1 (pt_not (pt_val (pe_callH h_law_ends_right gd (hr.mono (by decide)) pass0 (pa_cons (pv 3) (pa_cons (pe_ix ix_list (pv 1) (pv 4) (fun _ _ => rfl)) pa_nil)))))))) (pss_one
 (ps_ret pe_bl)) pss_nil)
 (pss_one
 (ps_if (pt_not (pt_val (pe_callH h_law_vectors_right gd (hr.mono (by decide)) pass0 (pa_cons (pv 3) (pa_cons (pe_ix ix_list (pv 1) (pv 4) (fun _ _ => rfl)) (pa_cons (pe_ix ix_list (pv 1) (pe_op op_sub pe_int (pv 4)) (fun _ _ => rfl)) pa_nil)))))) (pss_one
 (ps_ret pe_bl)) pss_nil)))))))
 (pss_one
 (ps_ret pe_bl)))), ?_⟩
    refine fun x1 d1 nx1 nd1 ne1 => ⟨x1, d1, _, rfl, upd_same, .inl ⟨false, rfl, fun H1 hk1 e1 => ⟨rfl, ?_⟩⟩⟩
    have s1 : Same H H1 := same_made nx1 nd1 hk1
    have g1 : GridAt C U H1 x1 false := ⟨d1, e1⟩
    refine fun x2 d2 nx2 nd2 ne2 => ⟨x2, d2, _, rfl, upd_same, .inl ⟨true, rfl, fun H2 hk2 e2 => ⟨rfl, ?_⟩⟩⟩
    have s2 : Same H1 H2 := same_made nx2 nd2 hk2
    have g2 : GridAt C U H2 x2 true := ⟨d2, e2⟩
    refine ⟨by show 2 ≤ sizeLine; decide, fun LG nLG => ?_⟩
    have s3 := Same.new (o := HO.lst [V.ref x1, V.ref x2]) nLG
    have eLG : upd H2 LG (HO.lst [V.ref x1, V.ref x2]) LG = some (HO.lst [V.ref x1, V.ref x2]) := upd_same
    replace g1 := (g1.same s2).same s3
    replace g2 := g2.same s3
    replace hS := sqL_same hS ((s1.trans s2).trans s3)
    replace tb := tb.ext ((s1.trans s2).trans s3)
    clear s1 s2 s3 e1 e2 hk1 hk2 nx1 nx2 nd1 nd2 ne1 ne2 nLG
    generalize upd H2 LG (HO.lst [V.ref x1, V.ref x2]) = H3 at *
    refine ⟨_, rfl, _, _, rfl, .inl hS, _, _, rfl, _, _, rfl, ?_⟩
    generalize hz : (if (if ((ns.map V.int).length : Int) < 6 then ((ns.map V.int).length : Int) else 6) > 1 then (if ((ns.map V.int).length : Int) < 6 then ((ns.map V.int).length : Int) else 6) else 1) = z
    obtain ⟨z0, z6⟩ := few_of (k := 6) (by decide) z hz
    have hSM := sqL_noT hS
    have eLM := noT_at eLG (fun _ z => by cases z)
    have gM1 : GridAt C U (noT H3) x1 false := let ⟨dx, e⟩ := g1; ⟨dx, noT_at e (fun _ z => by cases z)⟩
    have gM2 : GridAt C U (noT H3) x2 true := let ⟨dx, e⟩ := g2; ⟨dx, noT_at e (fun _ z => by cases z)⟩
    have nt : ∀ b ps, noT H3 b ≠ some (.tbl ps) := fun b ps z => (noT_of z).2 ps rfl
    have sM : Same (noT H3) H3 := noT_same
    generalize noT H3 = M at *
    refine ⟨z, rfl, by omega, by omega, for_range (lo := 0) (n := z.toNat) (fun i σ' H' => ∃ v2 v3 v4, σ' = [some (.ref a), some (.ref LG), v2, v3, v4] ∧ Same M H' ∧ Tabs cT H')
      ⟨none, none, none, rfl, sM, tb⟩ ?_ ?_⟩
    · rintro i' _ H0 hi ⟨v2, v3, v4, rfl, sM0, tb0⟩
      refine ⟨_, rfl, _, rfl, a, ns, _, rfl, sqL_same hSM sM0, (by omega), fun p H1 np same die => ?_⟩
      have mp : M p = none := by
        cases e : M p with
        | none => rfl
        | some o => rw [sM0 _ _ e] at np; cases np
      have st1 : GL.St cT p M H1 := ⟨sM0.trans same, mp, nt, die, tb0.ext same⟩
      refine ⟨2, rfl, by decide, by decide, for_range (lo := 0) (n := 2) (fun j σ' H' => ∃ v4, σ' = [some (.ref a), some (.ref LG), some (.int (0 + (i' : Int))), some (.ref p), v4] ∧ GL.St cT p M H') ⟨_, rfl, st1⟩ ?_ ?_⟩
      · rintro j _ H4 hj ⟨v4, rfl, st4⟩
        obtain ⟨t, t2, xa, xb, ea, eb, ga, gb, tne⟩ : ∃ t t2 xa xb, atI [V.ref x1, V.ref x2] (0 + (j : Int)) = some (.ref xa) ∧ atI [V.ref x1, V.ref x2] (1 - (0 + (j : Int))) = some (.ref xb) ∧ GridAt C U M xa t ∧ GridAt C U M xb t2 ∧ t ≠ t2 := by
          rcases (show j = 0 ∨ j = 1 by omega) with rfl | rfl
          · exact ⟨false, true, x1, x2, atI_nat (j := 0) rfl, atI_nat (j := 1) rfl, gM1, gM2, by decide⟩
          · exact ⟨true, false, x2, x1, atI_nat (j := 1) rfl, atI_nat (j := 0) rfl, gM2, gM1, by decide⟩
        have eL : ∀ {H'}, GL.St cT p M H' → SqL K H' LG [V.ref x1, V.ref x2] := fun st => SqL.of (st.same _ _ eLM)
        refine ⟨_, rfl, _, rfl, _, rfl, LG, _, _, _, rfl, rfl, eL st4, ea, p, xa, t, rfl, st4.die, ga.same st4.same, st4.tabs, fun H5 g5 => ⟨true, rfl, (iteF ?_ : if (!true) = true then _ else _)⟩⟩
        have st5 := st4.gotT g5
        refine ⟨_, rfl, _, rfl, _, rfl, LG, _, _, _, rfl, rfl, eL st5, ea, p, xa, t, rfl, st5.die, ga.same st5.same, st5.tabs, fun H6 g6 => ⟨true, rfl, (iteF ?_ : if (!true) = true then _ else _)⟩⟩
        have st6 := st5.gotT g6
        refine ⟨_, rfl, _, rfl, _, rfl, LG, _, _, _, rfl, rfl, eL st6, ea, _, rfl, _, rfl, _, _, rfl, rfl, LG, _, _, _, rfl, rfl, eL st6, eb, p, xa, xb, t, t2, rfl, st6.die, ga.same st6.same, gb.same st6.same, tne, st6.tabs, fun H7 g7 => ⟨true, rfl, (iteF ?_ : if (!true) = true then _ else _)⟩⟩
        exact ⟨_, rfl, st6.gotT g7⟩
      rintro _ H4 ⟨v4, rfl, st4⟩
      exact ⟨_, _, _, rfl, st4.same, st4.tabs⟩
    · rintro _ H0 ⟨v2, v3, v4, rfl, sM0, tb0⟩
      exact k _
end
end K07
namespace K07
open PySem PySem.Spec PyProof.Rows L2 GL PySem.GLE LamX
theorem cd_mk {K : PySem.W.Frag} {c P : Addr} {vs : Array Value} {d : Option Addr} {sl : Array (Option Value)} (l : K.lookup c = some ⟨.type "code", d, .fields vs, sl⟩) (e : vs[11]? = some (.ref P)) (h : PySem.W.codeHdIn K c P = true) : PySem.W.codeHdIn K c P = true := h
theorem bare_mk {K : PySem.W.Frag} {D : Addr} {nm : String} {cd : ClassData} {m r : Str} (c : PySem.W.clsIn K D = some cd) (o : cd.mro = [.ref D, .type "object"]) (a : PySem.W.findIn K (.ref D) m = some none) (b : PySem.W.findIn K (.ref D) r = some none) (hm : PySem.dunder nm = m) (hr : dunderR nm = r) : BareC K D nm := ⟨⟨cd, c, o⟩, by rw [hm]; exact a, by rw [hr]; exact b⟩
theorem binc_mk {K : PySem.W.Frag} {CV CM : Addr} {nm : String} {m r n : Str} (X : ClsTxt K CV CM n) (O : OpTxt K CV CM m r) (hm : PySem.dunder nm = m) (hr : dunderR nm = r) : ∀ C, IsV CV CM C → BinC K C nm := fun C hC => by
  rcases hC with rfl | rfl
  · exact ⟨X.sfV, by rw [hm]; exact O.fV, by rw [hr]; exact O.rV⟩
  · exact ⟨X.sfM, by rw [hm]; exact O.fM, by rw [hr]; exact O.rM⟩
def lamN (x : Str) : Str := (x ++ ".<locals>.") ++ "<lambda>"
def cTof (T1 T2 T3 : Addr) : List (Addr × Str) := [(T1, lamN "_law_points_right"), (T2, lamN "_law_ends_right"), (T3, lamN "_law_vectors_right")]
theorem all_mk {l : PySem.W.OpenLaw} {P : Program} {w : World} {K : PySem.W.Frag} {h : Heap} {mg : Str → Option Value} {fa : Addr} {aG dU C CV CM aS aT s0 s1 s2 s3 t0 t1 t2 t3 t4 t5 eG eP eO eN eQ iN iQ c1 T1 c2 T2 c3 T3 : Addr} (X : K.In h) (G : h.Ns mainGlobals mg) (hfa : mg "law" = some (.ref fa))
    (z0 : PySem.W.nsIn K mainGlobals "isinstance" = some none)
    (z1 : PySem.W.nsIn K mainGlobals "bool" = some none)
    (z2 : PySem.W.nsIn K mainGlobals "int" = some none)
    (z3 : PySem.W.nsIn K mainGlobals "tuple" = some none)
    (z4 : PySem.W.nsIn K mainGlobals "len" = some none)
    (z5 : PySem.W.nsIn K mainGlobals "max" = some none)
    (z6 : PySem.W.nsIn K mainGlobals "min" = some none)
    (z7 : PySem.W.nsIn K mainGlobals "abs" = some none)
    (z8 : PySem.W.nsIn K mainGlobals "range" = some none)
    (z9 : PySem.W.nsIn K mainGlobals "repr" = some none)
    (z10 : PySem.W.nsIn K mainGlobals "set" = some none)
    (dig : PySem.W.nsIn K cStatics "sys.int_max_str_digits" = some none)
    (nGRIDS : PySem.W.nsIn K mainGlobals "GRIDS" = some (some (.ref aG)))
    (n_UNITS : PySem.W.nsIn K mainGlobals "_UNITS" = some (some (.ref dU)))
    (nGrid : PySem.W.nsIn K mainGlobals "Grid" = some (some (.ref C)))
    (c : GCls K C)
    (tg : TupK K aG [.str "square", .str "triangle"])
    (kS : KDct K w dU "square" (.ref aS))
    (kT : KDct K w dU "triangle" (.ref aT))
    (tS : TupK K aS [.ref s0, .ref s1, .ref s2, .ref s3])
    (tT : TupK K aT [.ref t0, .ref t1, .ref t2, .ref t3, .ref t4, .ref t5])
    (p0 : TupK K s0 [.int 1, .int 0])
    (p1 : TupK K s1 [.int 0, .int 1])
    (p2 : TupK K s2 [.int (-1), .int 0])
    (p3 : TupK K s3 [.int 0, .int (-1)])
    (q0 : TupK K t0 [.int 1, .int 0])
    (q1 : TupK K t1 [.int 0, .int 1])
    (q2 : TupK K t2 [.int (-1), .int 1])
    (q3 : TupK K t3 [.int (-1), .int 0])
    (q4 : TupK K t4 [.int 0, .int (-1)])
    (q5 : TupK K t5 [.int 1, .int (-1)])
    (di : Dc K C "Grid.__init__" s_Grid_WinitW)
    (m0 : Dm K C "__eq__" "Grid.__eq__" s_Grid_WeqW)
    (m1 : Dm K C "unit" "Grid.unit" s_Grid_unit)
    (m2 : Dm K C "direction_of" "Grid.direction_of" s_Grid_direction_of)
    (m3 : Dm K C "product" "Grid.product" s_Grid_product)
    (m4 : Dm K C "norm_of" "Grid.norm_of" s_Grid_norm_of)
    (m5 : Dm K C "conjugate_of" "Grid.conjugate_of" s_Grid_conjugate_of)
    (m6 : Dm K C "turned" "Grid.turned" s_Grid_turned)
    (m7 : Dm K C "quotient" "Grid.quotient" s_Grid_quotient)
    (m8 : Dm K C "alternate" "Grid.alternate" s_Grid_alternate)
    (gi : GIs K C)
    (uS : ∃ o, K.lookup aS = some o ∧ o.cls = .type "tuple" ∧ o.dict = none)
    (uT : ∃ o, K.lookup aT = some o ∧ o.cls = .type "tuple" ∧ o.dict = none)
    (nVector : PySem.W.nsIn K mainGlobals "Vector" = some (some (.ref CV)))
    (nMade : PySem.W.nsIn K mainGlobals "MadeVector" = some (some (.ref CM)))
    (vcV : VCls K CV)
    (vcM : VCls K CM)
    (viV : GIs K CV)
    (viM : GIs K CM)
    (vgv : PySem.W.subIn K (.ref C) (.ref CV) = some false)
    (vgm : PySem.W.subIn K (.ref C) (.ref CM) = some false)
    (nGV : C ≠ CV)
    (nGM : C ≠ CM)
    (vX : ClsTxt K CV CM "MadeVector")
    (voadd : OpTxt K CV CM "__add__" "__radd__")
    (vosub : OpTxt K CV CM "__sub__" "__rsub__")
    (vomul : OpTxt K CV CM "__mul__" "__rmul__")
    (vofloordiv : OpTxt K CV CM "__floordiv__" "__rfloordiv__")
    (bgadd : BareC K C "add")
    (bgsub : BareC K C "sub")
    (bgmul : BareC K C "mul")
    (bgfloordiv : BareC K C "floordiv")
    (vfV : ∃ f : Addr, PySem.W.findIn K (.ref CV) "__getitem__" = some (some (.ref f)) ∧ PySem.W.fnIn K f = true)
    (vfM : ∃ f : Addr, PySem.W.findIn K (.ref CM) "__getitem__" = some (some (.ref f)) ∧ PySem.W.fnIn K f = true)
    (vdV : Dc K CV "Vector.__init__" s_Vector_WinitW)
    (vdM : Dc K CM "MadeVector.__init__" s_MadeVector_WinitW)
    (va0 : Dm K CV "__add__" "Vector.__add__" s_Vector_WaddW)
    (va1 : Dm K CV "__sub__" "Vector.__sub__" s_Vector_WsubW)
    (va2 : Dm K CV "__mul__" "Vector.__mul__" s_Vector_WmulW)
    (va3 : Dm K CV "__floordiv__" "Vector.__floordiv__" s_Vector_WfloordivW)
    (va4 : Dm K CV "turned" "Vector.turned" s_Vector_turned)
    (va5 : Dm K CV "power" "Vector.power" s_Vector_power)
    (va6 : Dm K CV "__getitem__" "Vector.__getitem__" s_Vector_WgetitemW)
    (vb0 : Dm K CM "__add__" "Vector.__add__" s_Vector_WaddW)
    (vb1 : Dm K CM "__sub__" "Vector.__sub__" s_Vector_WsubW)
    (vb2 : Dm K CM "__mul__" "Vector.__mul__" s_Vector_WmulW)
    (vb3 : Dm K CM "__floordiv__" "Vector.__floordiv__" s_Vector_WfloordivW)
    (vb4 : Dm K CM "turned" "Vector.turned" s_Vector_turned)
    (vb5 : Dm K CM "power" "Vector.power" s_Vector_power)
    (vb6 : Dm K CM "__getitem__" "Vector.__getitem__" s_Vector_WgetitemW)
    (kTt : PySem.W.kitOne K (.ref C) (.type "tuple") = some false)
    (kVG : PySem.W.kitOne K (.ref CV) (.ref C) = some false)
    (sub : PySem.W.subIn K (.ref C) (.type "str") = some false)
    (neG : PySem.W.nsIn K mainGlobals "InvalidGrid" = some (some (.ref eG)))
    (qeG : PySem.W.excIn K eG [.type "ValueError", .type "Exception", .type "BaseException", .type "object"] "ValueError.__new__" = true)
    (keG : PySem.W.keepIn K (.ref eG) = true)
    (beG : PySem.W.subIn K (.ref eG) (.type "BaseException") = some true)
    (teG : PySem.W.typeIn K (.ref eG) = some (.type "type"))
    (neP : PySem.W.nsIn K mainGlobals "InvalidPoint" = some (some (.ref eP)))
    (qeP : PySem.W.excIn K eP [.type "ValueError", .type "Exception", .type "BaseException", .type "object"] "ValueError.__new__" = true)
    (keP : PySem.W.keepIn K (.ref eP) = true)
    (beP : PySem.W.subIn K (.ref eP) (.type "BaseException") = some true)
    (teP : PySem.W.typeIn K (.ref eP) = some (.type "type"))
    (neO : PySem.W.nsIn K mainGlobals "InvalidOperation" = some (some (.ref eO)))
    (qeO : PySem.W.excIn K eO [.type "ValueError", .type "Exception", .type "BaseException", .type "object"] "ValueError.__new__" = true)
    (keO : PySem.W.keepIn K (.ref eO) = true)
    (beO : PySem.W.subIn K (.ref eO) (.type "BaseException") = some true)
    (teO : PySem.W.typeIn K (.ref eO) = some (.type "type"))
    (xN : ErrTxt K mg "InvalidNumber" "value" eN iN)
    (xQ : ErrTxt K mg "NoQuotient" "divisor" eQ iQ)
    (yGG : PySem.W.exmOne K (.ref eG) (.ref eG) = some true)
    (yGP : PySem.W.exmOne K (.ref eG) (.ref eP) = some false)
    (yGO : PySem.W.exmOne K (.ref eG) (.ref eO) = some false)
    (yGN : PySem.W.exmOne K (.ref eG) (.ref eN) = some false)
    (yGQ : PySem.W.exmOne K (.ref eG) (.ref eQ) = some false)
    (yPG : PySem.W.exmOne K (.ref eP) (.ref eG) = some false)
    (yPP : PySem.W.exmOne K (.ref eP) (.ref eP) = some true)
    (yPO : PySem.W.exmOne K (.ref eP) (.ref eO) = some false)
    (yPN : PySem.W.exmOne K (.ref eP) (.ref eN) = some false)
    (yPQ : PySem.W.exmOne K (.ref eP) (.ref eQ) = some false)
    (yOG : PySem.W.exmOne K (.ref eO) (.ref eG) = some false)
    (yOP : PySem.W.exmOne K (.ref eO) (.ref eP) = some false)
    (yOO : PySem.W.exmOne K (.ref eO) (.ref eO) = some true)
    (yON : PySem.W.exmOne K (.ref eO) (.ref eN) = some false)
    (yOQ : PySem.W.exmOne K (.ref eO) (.ref eQ) = some false)
    (yNG : PySem.W.exmOne K (.ref eN) (.ref eG) = some false)
    (yNP : PySem.W.exmOne K (.ref eN) (.ref eP) = some false)
    (yNO : PySem.W.exmOne K (.ref eN) (.ref eO) = some false)
    (yNN : PySem.W.exmOne K (.ref eN) (.ref eN) = some true)
    (yNQ : PySem.W.exmOne K (.ref eN) (.ref eQ) = some false)
    (yQG : PySem.W.exmOne K (.ref eQ) (.ref eG) = some false)
    (yQP : PySem.W.exmOne K (.ref eQ) (.ref eP) = some false)
    (yQO : PySem.W.exmOne K (.ref eQ) (.ref eO) = some false)
    (yQN : PySem.W.exmOne K (.ref eQ) (.ref eN) = some false)
    (yQQ : PySem.W.exmOne K (.ref eQ) (.ref eQ) = some true)
    (nd : [eG, eP, eO, eN, eQ].Nodup)
    (g0 : ∃ u, PySem.W.nsIn K mainGlobals "_BOUND" = some (some u) ∧ RelV (.int B) u)
    (g1 : ∃ u, PySem.W.nsIn K mainGlobals "MAX_POWER" = some (some u) ∧ RelV (.int 1000) u)
    (d0 : Df K mg "is_integer" s_is_integer)
    (d1 : Df K mg "is_point" s_is_point)
    (d2 : Df K mg "plus" s_plus)
    (d3 : Df K mg "minus" s_minus)
    (d4 : Df K mg "times" s_times)
    (d5 : Df K mg "norm_in" s_norm_in)
    (d6 : Df K mg "flipped" s_flipped)
    (d7 : Df K mg "turned_by" s_turned_by)
    (d8 : Df K mg "divided" s_divided)
    (d9 : Df K mg "raised" s_raised)
    (d10 : Df K mg "take_turns" s_take_turns)
    (d11 : Df K mg "_check_point" s__check_point)
    (d12 : Df K mg "_check_number" s__check_number)
    (d13 : Df K mg "_check_partner" s__check_partner)
    (d14 : Df K mg "_law_dice" s__law_dice)
    (d15 : Df K mg "_law_roll" s__law_roll)
    (d16 : Df K mg "_law_pick" s__law_pick)
    (d17 : Df K mg "_law_limit" s__law_limit)
    (d18 : Df K mg "_law_met" s__law_met)
    (d19 : Df K mg "_law_is_int" s__law_is_int)
    (d20 : Df K mg "_law_point_word" s__law_point_word)
    (d21 : Df K mg "_law_first" s__law_first)
    (d22 : Df K mg "law" s_law)
    (l1 : Dl K mg "_law_points_right" s__law_points_right c1)
    (l2 : Dl K mg "_law_ends_right" s__law_ends_right c2)
    (l3 : Dl K mg "_law_vectors_right" s__law_vectors_right c3)
    (h1 : PySem.W.codeHdIn K c1 T1 = true)
    (h2 : PySem.W.codeHdIn K c2 T2 = true)
    (h3 : PySem.W.codeHdIn K c3 T3 = true)
    (nT : [T1, T2, T3].Nodup)
    (f1 : K.lookup T1 = none)
    (f2 : K.lookup T2 = none)
    (f3 : K.lookup T3 = none)
    (e1 : h.get? T1 = some { cls := .none, data := .fields #[] })
    (e2 : h.get? T2 = some { cls := .none, data := .fields #[] })
    (e3 : h.get? T3 = some { cls := .none, data := .fields #[] })
    (lp : l.prog = P) : LawTab l w K CX0 18 63 "_law_script" mg fa h := by
  have T : Txt K mg aG dU C CV CM ⟨eG, eP, eO, eN, eQ, iN, iQ⟩ := ⟨PySem.W.mg_none_of X G z0, PySem.W.mg_none_of X G z1, PySem.W.mg_none_of X G z2, PySem.W.mg_none_of X G z3, PySem.W.mg_none_of X G z4, PySem.W.mg_none_of X G z5, PySem.W.mg_none_of X G z6, PySem.W.mg_none_of X G z7, PySem.W.mg_none_of X G z8, PySem.W.mg_none_of X G z9, PySem.W.mg_none_of X G z10, (let ⟨u, a, r⟩ := g0; ⟨u, PySem.W.mg_of X G a, r⟩), (let ⟨u, a, r⟩ := g1; ⟨u, PySem.W.mg_of X G a, r⟩), ⟨_, PySem.W.mg_of X G nGRIDS, rfl⟩, ⟨_, PySem.W.mg_of X G n_UNITS, rfl⟩, ⟨_, PySem.W.mg_of X G nGrid, rfl⟩, ⟨_, PySem.W.mg_of X G nVector, rfl⟩, ⟨_, PySem.W.mg_of X G nMade, rfl⟩, ⟨qeG, PySem.W.mg_of X G neG, keG, beG, teG⟩, ⟨qeP, PySem.W.mg_of X G neP, keP, beP, teP⟩, ⟨qeO, PySem.W.mg_of X G neO, keO, beO, teO⟩, xN, xQ⟩
  have nd' := nd
  simp only [List.nodup_cons, List.mem_cons, List.not_mem_nil, or_false, not_or] at nd'
  obtain ⟨⟨nGP, nGO, nGN, nGQ⟩, ⟨nPO, nPN, nPQ⟩, ⟨nON, nOQ⟩, nNQ, _⟩ := nd'
  have MT : MetT K mg ⟨eG, eP, eO, eN, eQ, iN, iQ⟩ := by
    refine ⟨T.zrepr, PySem.W.mg_of X G neG, PySem.W.mg_of X G neP, PySem.W.mg_of X G neO, xN, xQ, fun D hD D' hD' => ?_, nd⟩
    simp only [List.mem_cons, List.not_mem_nil, or_false] at hD hD'
    rcases hD with rfl | rfl | rfl | rfl | rfl
    · rcases hD' with rfl | rfl | rfl | rfl | rfl
      · rw [yGG, decide_eq_true rfl]
      · rw [yGP, decide_eq_false nGP]
      · rw [yGO, decide_eq_false nGO]
      · rw [yGN, decide_eq_false nGN]
      · rw [yGQ, decide_eq_false nGQ]
    · rcases hD' with rfl | rfl | rfl | rfl | rfl
      · rw [yPG, decide_eq_false (Ne.symm nGP)]
      · rw [yPP, decide_eq_true rfl]
      · rw [yPO, decide_eq_false nPO]
      · rw [yPN, decide_eq_false nPN]
      · rw [yPQ, decide_eq_false nPQ]
    · rcases hD' with rfl | rfl | rfl | rfl | rfl
      · rw [yOG, decide_eq_false (Ne.symm nGO)]
      · rw [yOP, decide_eq_false (Ne.symm nPO)]
      · rw [yOO, decide_eq_true rfl]
      · rw [yON, decide_eq_false nON]
      · rw [yOQ, decide_eq_false nOQ]
    · rcases hD' with rfl | rfl | rfl | rfl | rfl
      · rw [yNG, decide_eq_false (Ne.symm nGN)]
      · rw [yNP, decide_eq_false (Ne.symm nPN)]
      · rw [yNO, decide_eq_false (Ne.symm nON)]
      · rw [yNN, decide_eq_true rfl]
      · rw [yNQ, decide_eq_false nNQ]
    · rcases hD' with rfl | rfl | rfl | rfl | rfl
      · rw [yQG, decide_eq_false (Ne.symm nGQ)]
      · rw [yQP, decide_eq_false (Ne.symm nPQ)]
      · rw [yQO, decide_eq_false (Ne.symm nOQ)]
      · rw [yQN, decide_eq_false (Ne.symm nNQ)]
      · rw [yQQ, decide_eq_true rfl]
  have hU := uni_mk (w := w) tg kS kT tS tT p0 p1 p2 p3 q0 q1 q2 q3 q4 q5
  have uTy : UTy K (fun t => cond t aT aS) := fun t => by cases t; exact uS; exact uT
  have vi : VIs K C CV CM := ⟨viV, viM, vX.mv, vX.vm, vgv, vgm, vX.ne⟩
  have vcs : ∀ D, IsV CV CM D → VCls K D := fun D d => by rcases d with rfl | rfl; exact vcV; exact vcM
  have vng : ∀ D, IsV CV CM D → D ≠ C := fun D d => by rcases d with rfl | rfl; exact Ne.symm nGV; exact Ne.symm nGM
  have bka : ∀ C D, IsV CV CM C → IsV CV CM D → BinK K C D .Add := bink_mk vX voadd (by decide +kernel) (by decide +kernel) (by decide +kernel) (by decide +kernel) (by decide +kernel)
  have bcadd : ∀ D, IsV CV CM D → BinC K D "add" := binc_mk vX voadd (by decide +kernel) (by decide +kernel)
  have bks : ∀ C D, IsV CV CM C → IsV CV CM D → BinK K C D .Sub := bink_mk vX vosub (by decide +kernel) (by decide +kernel) (by decide +kernel) (by decide +kernel) (by decide +kernel)
  have bcsub : ∀ D, IsV CV CM D → BinC K D "sub" := binc_mk vX vosub (by decide +kernel) (by decide +kernel)
  have bkm : ∀ C D, IsV CV CM C → IsV CV CM D → BinK K C D .Mult := bink_mk vX vomul (by decide +kernel) (by decide +kernel) (by decide +kernel) (by decide +kernel) (by decide +kernel)
  have bcmul : ∀ D, IsV CV CM D → BinC K D "mul" := binc_mk vX vomul (by decide +kernel) (by decide +kernel)
  have bkd : ∀ C D, IsV CV CM C → IsV CV CM D → BinK K C D .FloorDiv := bink_mk vX vofloordiv (by decide +kernel) (by decide +kernel) (by decide +kernel) (by decide +kernel) (by decide +kernel)
  have bcfloordiv : ∀ D, IsV CV CM D → BinC K D "floordiv" := binc_mk vX vofloordiv (by decide +kernel) (by decide +kernel)
  have vfn : ∀ D f, IsV CV CM D → PySem.W.findIn K (.ref D) "__getitem__" = some (some (.ref f)) → PySem.W.fnIn K f = true := fun D f d e => by
    rcases d with rfl | rfl
    · obtain ⟨g, h1, h2⟩ := vfV; rw [h1] at e; cases e; exact h2
    · obtain ⟨g, h1, h2⟩ := vfM; rw [h1] at e; cases e; exact h2
  obtain ⟨f, fd, F, m'⟩ := d22.ex
  rw [hfa] at m'
  cases m'
  obtain ⟨oc, od, kV, doc, pm, an, cdv, ct, osl, eF, at_, cR⟩ := id F.ex
  have nT' := nT
  simp only [List.nodup_cons, List.mem_cons, List.not_mem_nil, or_false, not_or] at nT'
  obtain ⟨⟨n12, n13⟩, n23, _⟩ := nT'
  have all3 : ∀ {Pr : Addr × Addr → Prop}, Pr (c1, T1) → Pr (c2, T2) → Pr (c3, T3) → ∀ p ∈ [(c1, T1), (c2, T2), (c3, T3)], Pr p := fun a b c p hp => by
    simp only [List.mem_cons, List.not_mem_nil, or_false] at hp
    rcases hp with rfl | rfl | rfl
    · exact a
    · exact b
    · exact c
  refine ⟨fd, [(c1, T1), (c2, T2), (c3, T3)], spLaw K (cTof T1 T2 T3), all3 (Pr := fun p => h.get? p.2 = some { cls := .none, data := .fields #[] }) e1 e2 e3, all3 (Pr := fun p => K.lookup p.2 = none) f1 f2 f3, all3 (Pr := fun p => PySem.W.CodeHd h p.1 p.2) (PySem.W.codeHd_of_K X h1) (PySem.W.codeHd_of_K X h2) (PySem.W.codeHd_of_K X h3),
    fun s u => by subst eF; exact .of_eq rfl, fun H a ns few _ tb hS => ⟨a, ns, rfl, hS, few, ?_, fun _ => rfl⟩, fun base kin hns TBs => ?_⟩
  · intro q hq
    have z1 := TabS.nil (q := lamN "_law_points_right") (tb (c1, T1) (by simp))
    have z2 := TabS.nil (q := lamN "_law_ends_right") (tb (c2, T2) (by simp))
    have z3 := TabS.nil (q := lamN "_law_vectors_right") (tb (c3, T3) (by simp))
    simp only [cTof, List.mem_cons, List.not_mem_nil, or_false] at hq
    rcases hq with rfl | rfl | rfl
    · exact z1
    · exact z2
    · exact z3
  rw [lp]
  have tb1 := TBs (c1, T1) (by simp)
  have tb2 := TBs (c2, T2) (by simp)
  have tb3 := TBs (c3, T3) (by simp)
  have one : ∀ p ∈ cTof T1 T2 T3, (p.1 = T1 → p.2 = lamN "_law_points_right") ∧ (p.1 = T2 → p.2 = lamN "_law_ends_right") ∧ (p.1 = T3 → p.2 = lamN "_law_vectors_right") := by
    intro p hp
    simp only [cTof, List.mem_cons, List.not_mem_nil, or_false] at hp
    rcases hp with rfl | rfl | rfl
    · exact ⟨fun _ => rfl, fun z => absurd z n12, fun z => absurd z n13⟩
    · exact ⟨fun z => absurd z.symm n12, fun _ => rfl, fun z => absurd z n23⟩
    · exact ⟨fun z => absurd z.symm n13, fun z => absurd z.symm n23, fun _ => rfl⟩
  have hi := h_is_integer (P := P) (w := w) (base := base) T d0
  have hpt := h_is_point T d1 hi
  have hplus := h_plus (P := P) (w := w) (base := base) d2
  have hminus := h_minus (P := P) (w := w) (base := base) d3
  have htimes := h_times (P := P) (w := w) (base := base) (U := fun t => cond t aT aS) c d4
  have hnorm := h_norm_in (P := P) (w := w) (base := base) (U := fun t => cond t aT aS) c d5
  have hflip := h_flipped (P := P) (w := w) (base := base) (U := fun t => cond t aT aS) c d6
  have hturn := h_turned_by c hU T d7 htimes
  have hdiv := h_divided d8 htimes hnorm hflip
  have hraise := h_raised d9 htimes 10
  have htake := h_take_turns (P := P) (w := w) (base := base) d10
  have hcp := h_check_point T d11 hpt
  have hcn := h_check_number T d12 hi
  have geq := h_geq (P := P) (w := w) (base := base) (U := fun t => cond t aT aS) c gi T m0
  have mu := h_unit c hU T m1 hcn
  have md := h_dir c uTy hU m2 hcp
  have mp := h_product m3 hcp htimes
  have mn := h_norm_of c m4 hcp hnorm
  have mc := h_conjugate_of c m5 hcp hflip
  have mt := h_turned c m6 hcp hcn hturn
  have mq := h_quotient m7 T hcp hdiv
  have ma := h_alternate c hU T m8 hpt htake
  have hpar := h_partnerX T c gi vi vcs d13 geq
  have mGrid := h_initX T hU c di sub geq
  have mVec := h_vinitX T c gi vcV vdV hcp hnorm
  have mMade := h_minit vcM vdM (PySem.W.mg_of X G nMade) hnorm
  have fadd : ∀ D, IsV CV CM D → HasM P w K mg base (L2.CX P w) D "__add__" 4 ["self", "other"] (spVBad K C (fun t => cond t aT aS) CV CM ⟨eG, eP, eO, eN, eQ, iN, iQ⟩) := fun D d => by rcases d with rfl | rfl; exact h_vadd va0 hpar hplus mMade; exact h_vadd vb0 hpar hplus mMade
  have fsub : ∀ D, IsV CV CM D → HasM P w K mg base (L2.CX P w) D "__sub__" 4 ["self", "other"] (spVBad K C (fun t => cond t aT aS) CV CM ⟨eG, eP, eO, eN, eQ, iN, iQ⟩) := fun D d => by rcases d with rfl | rfl; exact h_vsub va1 hpar hminus mMade; exact h_vsub vb1 hpar hminus mMade
  have fmul : ∀ D, IsV CV CM D → HasM P w K mg base (L2.CX P w) D "__mul__" 4 ["self", "other"] (spVBad K C (fun t => cond t aT aS) CV CM ⟨eG, eP, eO, eN, eQ, iN, iQ⟩) := fun D d => by rcases d with rfl | rfl; exact h_vmul va2 hpar htimes mMade; exact h_vmul vb2 hpar htimes mMade
  have fdiv : ∀ D, IsV CV CM D → HasM P w K mg base (L2.CX P w) D "__floordiv__" 4 ["self", "other"] (spVDivX K C (fun t => cond t aT aS) CV CM ⟨eG, eP, eO, eN, eQ, iN, iQ⟩) := fun D d => by rcases d with rfl | rfl; exact h_vdiv T vcs va3 hpar hdiv mMade; exact h_vdiv T vcs vb3 hpar hdiv mMade
  have ftur : ∀ D, IsV CV CM D → HasM P w K mg base (L2.CX P w) D "turned" 4 ["self", "turn"] (spVTurnX K C (fun t => cond t aT aS) CV CM ⟨eG, eP, eO, eN, eQ, iN, iQ⟩) := fun D d => by rcases d with rfl | rfl; exact h_vturned va4 hcn hturn mMade; exact h_vturned vb4 hcn hturn mMade
  have fpow : ∀ D, IsV CV CM D → HasM P w K mg base (L2.CX P w) D "power" 13 ["self", "many"] (spVPowX K C (fun t => cond t aT aS) CV CM ⟨eG, eP, eO, eN, eQ, iN, iQ⟩) := fun D d => by rcases d with rfl | rfl; exact h_vpower T vcs va5 hi hraise mMade; exact h_vpower T vcs vb5 hi hraise mMade
  have fitem : ∀ D, IsV CV CM D → HasM P w K mg base (L2.CX P w) D "__getitem__" 2 ["self", "index"] (spVItemX K C (fun t => cond t aT aS) CV CM ⟨eG, eP, eO, eN, eQ, iN, iQ⟩) := fun D d => by rcases d with rfl | rfl; exact h_vitem T vcs va6 hi; exact h_vitem T vcs vb6 hi
  have hdice := h_law_dice (P := P) (w := w) (base := base) T d14
  have hroll := h_law_roll (P := P) (w := w) (base := base) T d15
  have hpick := h_law_pick T d16 hroll
  have hlim := h_law_limit (P := P) (w := w) (base := base) d17
  have hint := h_law_is_int T d19 hlim
  have hword := h_law_point_word T d20 hint
  have hfirst := h_law_first (P := P) (w := w) (base := base) T d21
  have hpts := h_points T c gi kTt d18 MT dig tb1 (cT := cTof T1 T2 T3) (by simp [cTof, lamN]) (fun p hp => (one p hp).1) geq hlim hpick hword hint hfirst mp mn mc md mt mu mq l1
  have hends := h_ends T c gi vi vcs kTt kVG d18 MT dig tb2 (cT := cTof T1 T2 T3) (by simp [cTof, lamN]) (fun p hp => (one p hp).2.1) hlim hpick hword ma mGrid mVec l2
  have hvecs := h_vectors T c gi vi vcs nGV vng d18 MT dig bka bks bkm bkd bcadd bcsub bcmul bcfloordiv bgadd bgsub bgmul bgfloordiv tb3 (cT := cTof T1 T2 T3) (by simp [cTof, lamN]) (fun p hp => (one p hp).2.2) hlim hpick hint mVec vfn fadd fsub fmul fdiv ftur fpow fitem l3
  exact law_ok T hdice mGrid hpts hends hvecs F
end K07
open PySem PySem.W PyProof.Rows in
set_option maxRecDepth 100000 in
set_option maxHeartbeats 0 in
theorem PySem.Challenge.cw_grownlines_k07_errors_of_grids_holds : PySem.Challenge.rw_grownlines_k07_errors_of_grids.Holds := by
  w_on; o_law; k_head; (case hw => w_witness2)
  k_fill
  refine GL.walk_tabs (l := PySem.Challenge.rw_grownlines_k07_errors_of_grids) (n := 63) (k := 18) (CX := fun _ => C8.CX0) (x := "_law_script") rfl (by decide) rfl ⟨rfl, by decide, by decide⟩ (fun w h Y => PySem.W.km_in_of Y) ?F (fun _ _ _ _ _ z => z)
  case F =>
    intro w mg fa h Y KX G hmg
    have hT8 := PySem.W.km_tabs_of Y
    refine' K07.all_mk KX G hmg ?w_z0 ?w_z1 ?w_z2 ?w_z3 ?w_z4 ?w_z5 ?w_z6 ?w_z7 ?w_z8 ?w_z9 ?w_z10 ?w_dig ?w_nGRIDS ?w_n_UNITS ?w_nGrid ?w_c ?w_tg ?w_kS ?w_kT ?w_tS ?w_tT ?w_p0 ?w_p1 ?w_p2 ?w_p3 ?w_q0 ?w_q1 ?w_q2 ?w_q3 ?w_q4 ?w_q5 ?w_di ?w_m0 ?w_m1 ?w_m2 ?w_m3 ?w_m4 ?w_m5 ?w_m6 ?w_m7 ?w_m8 ?w_gi ?w_uS ?w_uT ?w_nVector ?w_nMade ?w_vcV ?w_vcM ?w_viV ?w_viM ?w_vgv ?w_vgm ?w_nGV ?w_nGM ?w_vX ?w_voadd ?w_vosub ?w_vomul ?w_vofloordiv ?w_bgadd ?w_bgsub ?w_bgmul ?w_bgfloordiv ?w_vfV ?w_vfM ?w_vdV ?w_vdM ?w_va0 ?w_va1 ?w_va2 ?w_va3 ?w_va4 ?w_va5 ?w_va6 ?w_vb0 ?w_vb1 ?w_vb2 ?w_vb3 ?w_vb4 ?w_vb5 ?w_vb6 ?w_kTt ?w_kVG ?w_sub ?w_neG ?w_qeG ?w_keG ?w_beG ?w_teG ?w_neP ?w_qeP ?w_keP ?w_beP ?w_teP ?w_neO ?w_qeO ?w_keO ?w_beO ?w_teO ?w_xN ?w_xQ ?w_yGG ?w_yGP ?w_yGO ?w_yGN ?w_yGQ ?w_yPG ?w_yPP ?w_yPO ?w_yPN ?w_yPQ ?w_yOG ?w_yOP ?w_yOO ?w_yON ?w_yOQ ?w_yNG ?w_yNP ?w_yNO ?w_yNN ?w_yNQ ?w_yQG ?w_yQP ?w_yQO ?w_yQN ?w_yQQ ?w_nd ?w_g0 ?w_g1 ?w_d0 ?w_d1 ?w_d2 ?w_d3 ?w_d4 ?w_d5 ?w_d6 ?w_d7 ?w_d8 ?w_d9 ?w_d10 ?w_d11 ?w_d12 ?w_d13 ?w_d14 ?w_d15 ?w_d16 ?w_d17 ?w_d18 ?w_d19 ?w_d20 ?w_d21 ?w_d22 ?w_l1 ?w_l2 ?w_l3 ?w_h1 ?w_h2 ?w_h3 ?w_nT ?w_f1 ?w_f2 ?w_f3 ?w_e1 ?w_e2 ?w_e3 rfl
    (case w_z0 => k_is)
    (case w_z1 => k_is)
    (case w_z2 => k_is)
    (case w_z3 => k_is)
    (case w_z4 => k_is)
    (case w_z5 => k_is)
    (case w_z6 => k_is)
    (case w_z7 => k_is)
    (case w_z8 => k_is)
    (case w_z9 => k_is)
    (case w_z10 => k_is)
    (case w_dig => k_is)
    (case w_nGRIDS => k_is)
    (case w_n_UNITS => k_is)
    (case w_nGrid => k_is)
    (case w_c => exact ⟨⟨by k_is, by k_is, by k_is, by k_is⟩, (show PySem.W.findIn _ _ _ = some none by k_is), (show PySem.W.findIn _ _ _ = some none by k_is), (show PySem.W.findIn _ _ _ = some none by k_is), (show PySem.W.findIn _ _ _ = some none by k_is)⟩)
    (case w_tg => exact ⟨_, _, _, by k_is, rfl, rfl, by decide, (.cons ⟨_, rfl⟩ (.cons ⟨_, rfl⟩ .nil))⟩)
    (case w_kS => refine' GL.kdct_mk ?kl ?kn ?kk; (case kl => k_is); (case kn => k_is); (case kk => exact ⟨⟨_, _, rfl, rfl⟩, ⟨_, _, rfl, rfl⟩, True.intro⟩))
    (case w_kT => refine' GL.kdct_mk ?kl ?kn ?kk; (case kl => k_is); (case kn => k_is); (case kk => exact ⟨⟨_, _, rfl, rfl⟩, ⟨_, _, rfl, rfl⟩, True.intro⟩))
    (case w_tS => exact ⟨_, _, _, by k_is, rfl, rfl, by decide, (.cons rfl (.cons rfl (.cons rfl (.cons rfl .nil))))⟩)
    (case w_tT => exact ⟨_, _, _, by k_is, rfl, rfl, by decide, (.cons rfl (.cons rfl (.cons rfl (.cons rfl (.cons rfl (.cons rfl .nil))))))⟩)
    (case w_p0 => exact ⟨_, _, _, by k_is, rfl, rfl, by decide, (.cons ⟨_, rfl⟩ (.cons ⟨_, rfl⟩ .nil))⟩)
    (case w_p1 => exact ⟨_, _, _, by k_is, rfl, rfl, by decide, (.cons ⟨_, rfl⟩ (.cons ⟨_, rfl⟩ .nil))⟩)
    (case w_p2 => exact ⟨_, _, _, by k_is, rfl, rfl, by decide, (.cons ⟨_, rfl⟩ (.cons ⟨_, rfl⟩ .nil))⟩)
    (case w_p3 => exact ⟨_, _, _, by k_is, rfl, rfl, by decide, (.cons ⟨_, rfl⟩ (.cons ⟨_, rfl⟩ .nil))⟩)
    (case w_q0 => exact ⟨_, _, _, by k_is, rfl, rfl, by decide, (.cons ⟨_, rfl⟩ (.cons ⟨_, rfl⟩ .nil))⟩)
    (case w_q1 => exact ⟨_, _, _, by k_is, rfl, rfl, by decide, (.cons ⟨_, rfl⟩ (.cons ⟨_, rfl⟩ .nil))⟩)
    (case w_q2 => exact ⟨_, _, _, by k_is, rfl, rfl, by decide, (.cons ⟨_, rfl⟩ (.cons ⟨_, rfl⟩ .nil))⟩)
    (case w_q3 => exact ⟨_, _, _, by k_is, rfl, rfl, by decide, (.cons ⟨_, rfl⟩ (.cons ⟨_, rfl⟩ .nil))⟩)
    (case w_q4 => exact ⟨_, _, _, by k_is, rfl, rfl, by decide, (.cons ⟨_, rfl⟩ (.cons ⟨_, rfl⟩ .nil))⟩)
    (case w_q5 => exact ⟨_, _, _, by k_is, rfl, rfl, by decide, (.cons ⟨_, rfl⟩ (.cons ⟨_, rfl⟩ .nil))⟩)
    (case w_di => refine' GL.dc_mk ?a ?i ?l ?c ?k ?mk ?kc; (case a => k_is); (case i => k_is); (case l => k_is); (case c => k_is); (case k => k_is); (case mk => k_is); (case kc => k_is))
    (case w_m0 => refine' GL.dm_mk ?a ?i ?l ?c ?k; (case a => k_is); (case i => k_is); (case l => k_is); (case c => k_is); (case k => k_is))
    (case w_m1 => refine' GL.dm_mk ?a ?i ?l ?c ?k; (case a => k_is); (case i => k_is); (case l => k_is); (case c => k_is); (case k => k_is))
    (case w_m2 => refine' GL.dm_mk ?a ?i ?l ?c ?k; (case a => k_is); (case i => k_is); (case l => k_is); (case c => k_is); (case k => k_is))
    (case w_m3 => refine' GL.dm_mk ?a ?i ?l ?c ?k; (case a => k_is); (case i => k_is); (case l => k_is); (case c => k_is); (case k => k_is))
    (case w_m4 => refine' GL.dm_mk ?a ?i ?l ?c ?k; (case a => k_is); (case i => k_is); (case l => k_is); (case c => k_is); (case k => k_is))
    (case w_m5 => refine' GL.dm_mk ?a ?i ?l ?c ?k; (case a => k_is); (case i => k_is); (case l => k_is); (case c => k_is); (case k => k_is))
    (case w_m6 => refine' GL.dm_mk ?a ?i ?l ?c ?k; (case a => k_is); (case i => k_is); (case l => k_is); (case c => k_is); (case k => k_is))
    (case w_m7 => refine' GL.dm_mk ?a ?i ?l ?c ?k; (case a => k_is); (case i => k_is); (case l => k_is); (case c => k_is); (case k => k_is))
    (case w_m8 => refine' GL.dm_mk ?a ?i ?l ?c ?k; (case a => k_is); (case i => k_is); (case l => k_is); (case c => k_is); (case k => k_is))
    (case w_gi => exact GL.gis_mk (by k_is) (by k_is) (by k_is) (by k_is) (by k_is) (by k_is) (by k_is) (by k_is))
    (case w_uS => exact ⟨_, by k_is, rfl, rfl⟩)
    (case w_uT => exact ⟨_, by k_is, rfl, rfl⟩)
    (case w_nVector => k_is)
    (case w_nMade => k_is)
    (case w_vcV => exact ⟨⟨by k_is, by k_is, by k_is, by k_is⟩, (show PySem.W.findIn _ _ _ = some none by k_is), (show PySem.W.findIn _ _ _ = some none by k_is), (show PySem.W.findIn _ _ _ = some none by k_is)⟩)
    (case w_vcM => exact ⟨⟨by k_is, by k_is, by k_is, by k_is⟩, (show PySem.W.findIn _ _ _ = some none by k_is), (show PySem.W.findIn _ _ _ = some none by k_is), (show PySem.W.findIn _ _ _ = some none by k_is)⟩)
    (case w_viV => exact GL.gis_mk (by k_is) (by k_is) (by k_is) (by k_is) (by k_is) (by k_is) (by k_is) (by k_is))
    (case w_viM => exact GL.gis_mk (by k_is) (by k_is) (by k_is) (by k_is) (by k_is) (by k_is) (by k_is) (by k_is))
    (case w_vgv => k_is)
    (case w_vgm => k_is)
    (case w_nGV => decide)
    (case w_nGM => decide)
    (case w_vX => exact ⟨by k_is, by k_is, by k_is, by k_is, by k_is, by k_is, ⟨_, by k_is, by first | rfl | decide⟩, by k_is, by k_is, by decide⟩)
    (case w_voadd => exact GL.optxt_mk (by k_is) (by k_is) (by k_is) (by k_is) (by k_is))
    (case w_vosub => exact GL.optxt_mk (by k_is) (by k_is) (by k_is) (by k_is) (by k_is))
    (case w_vomul => exact GL.optxt_mk (by k_is) (by k_is) (by k_is) (by k_is) (by k_is))
    (case w_vofloordiv => exact GL.optxt_mk (by k_is) (by k_is) (by k_is) (by k_is) (by k_is))
    (case w_bgadd => refine' K07.bare_mk (m := "__add__") (r := "__radd__") ?a ?b ?c ?d (by decide +kernel) (by decide +kernel); (case a => k_is); (case b => first | rfl | decide); (case c => k_is); (case d => k_is))
    (case w_bgsub => refine' K07.bare_mk (m := "__sub__") (r := "__rsub__") ?a ?b ?c ?d (by decide +kernel) (by decide +kernel); (case a => k_is); (case b => first | rfl | decide); (case c => k_is); (case d => k_is))
    (case w_bgmul => refine' K07.bare_mk (m := "__mul__") (r := "__rmul__") ?a ?b ?c ?d (by decide +kernel) (by decide +kernel); (case a => k_is); (case b => first | rfl | decide); (case c => k_is); (case d => k_is))
    (case w_bgfloordiv => refine' K07.bare_mk (m := "__floordiv__") (r := "__rfloordiv__") ?a ?b ?c ?d (by decide +kernel) (by decide +kernel); (case a => k_is); (case b => first | rfl | decide); (case c => k_is); (case d => k_is))
    (case w_vfV => exact GL.gm_mk (by k_is) (by k_is))
    (case w_vfM => exact GL.gm_mk (by k_is) (by k_is))
    (case w_vdV => refine' GL.dc_mk ?a ?i ?l ?c ?k ?mk ?kc; (case a => k_is); (case i => k_is); (case l => k_is); (case c => k_is); (case k => k_is); (case mk => k_is); (case kc => k_is))
    (case w_vdM => refine' GL.dc_mk ?a ?i ?l ?c ?k ?mk ?kc; (case a => k_is); (case i => k_is); (case l => k_is); (case c => k_is); (case k => k_is); (case mk => k_is); (case kc => k_is))
    (case w_va0 => refine' GL.dm_mk ?a ?i ?l ?c ?k; (case a => k_is); (case i => k_is); (case l => k_is); (case c => k_is); (case k => k_is))
    (case w_va1 => refine' GL.dm_mk ?a ?i ?l ?c ?k; (case a => k_is); (case i => k_is); (case l => k_is); (case c => k_is); (case k => k_is))
    (case w_va2 => refine' GL.dm_mk ?a ?i ?l ?c ?k; (case a => k_is); (case i => k_is); (case l => k_is); (case c => k_is); (case k => k_is))
    (case w_va3 => refine' GL.dm_mk ?a ?i ?l ?c ?k; (case a => k_is); (case i => k_is); (case l => k_is); (case c => k_is); (case k => k_is))
    (case w_va4 => refine' GL.dm_mk ?a ?i ?l ?c ?k; (case a => k_is); (case i => k_is); (case l => k_is); (case c => k_is); (case k => k_is))
    (case w_va5 => refine' GL.dm_mk ?a ?i ?l ?c ?k; (case a => k_is); (case i => k_is); (case l => k_is); (case c => k_is); (case k => k_is))
    (case w_va6 => refine' GL.dm_mk ?a ?i ?l ?c ?k; (case a => k_is); (case i => k_is); (case l => k_is); (case c => k_is); (case k => k_is))
    (case w_vb0 => refine' GL.dm_mk ?a ?i ?l ?c ?k; (case a => k_is); (case i => k_is); (case l => k_is); (case c => k_is); (case k => k_is))
    (case w_vb1 => refine' GL.dm_mk ?a ?i ?l ?c ?k; (case a => k_is); (case i => k_is); (case l => k_is); (case c => k_is); (case k => k_is))
    (case w_vb2 => refine' GL.dm_mk ?a ?i ?l ?c ?k; (case a => k_is); (case i => k_is); (case l => k_is); (case c => k_is); (case k => k_is))
    (case w_vb3 => refine' GL.dm_mk ?a ?i ?l ?c ?k; (case a => k_is); (case i => k_is); (case l => k_is); (case c => k_is); (case k => k_is))
    (case w_vb4 => refine' GL.dm_mk ?a ?i ?l ?c ?k; (case a => k_is); (case i => k_is); (case l => k_is); (case c => k_is); (case k => k_is))
    (case w_vb5 => refine' GL.dm_mk ?a ?i ?l ?c ?k; (case a => k_is); (case i => k_is); (case l => k_is); (case c => k_is); (case k => k_is))
    (case w_vb6 => refine' GL.dm_mk ?a ?i ?l ?c ?k; (case a => k_is); (case i => k_is); (case l => k_is); (case c => k_is); (case k => k_is))
    (case w_kTt => kit_is)
    (case w_kVG => kit_is)
    (case w_sub => k_is)
    (case w_neG => k_is)
    (case w_qeG => k_exc)
    (case w_keG => k_is)
    (case w_beG => k_is)
    (case w_teG => k_is)
    (case w_neP => k_is)
    (case w_qeP => k_exc)
    (case w_keP => k_is)
    (case w_beP => k_is)
    (case w_teP => k_is)
    (case w_neO => k_is)
    (case w_qeO => k_exc)
    (case w_keO => k_is)
    (case w_beO => k_is)
    (case w_teO => k_is)
    (case w_xN => refine' GL.err_mk KX G PySem.F.excBase_IndexError PySem.GLE.chain_index (by decide) (by decide) (fun _ _ _ _ _ _ _ _ _ _ _ _ _ _ _ => rfl) ?yn ?yl ?yiC ?ylf ?ycd ?ysa ?yga ?ygg ?yno ?ytC ?ykC ?yexC ?ytyC ?yhdC; (case yn => k_is); (case yl => k_is); (case yiC => k_is); (case ylf => k_is); (case ycd => k_is); (case ysa => k_is); (case yga => k_is); (case ygg => k_is); (case yno => k_is); (case ytC => k_is); (case ykC => k_is); (case yexC => k_is); (case ytyC => k_is); (case yhdC => k_is))
    (case w_xQ => refine' GL.err_mk KX G PySem.F.excBase_ZeroDivisionError PySem.GLE.chain_zero (by decide) (by decide) (fun _ _ _ _ _ _ _ _ _ _ _ _ _ _ _ => rfl) ?yn ?yl ?yiC ?ylf ?ycd ?ysa ?yga ?ygg ?yno ?ytC ?ykC ?yexC ?ytyC ?yhdC; (case yn => k_is); (case yl => k_is); (case yiC => k_is); (case ylf => k_is); (case ycd => k_is); (case ysa => k_is); (case yga => k_is); (case ygg => k_is); (case yno => k_is); (case ytC => k_is); (case ykC => k_is); (case yexC => k_is); (case ytyC => k_is); (case yhdC => k_is))
    (case w_yGG => exact PySem.W.exm_ref (by k_is) (by k_is) (by k_is) (by k_is))
    (case w_yGP => exact PySem.W.exm_ref (by k_is) (by k_is) (by k_is) (by k_is))
    (case w_yGO => exact PySem.W.exm_ref (by k_is) (by k_is) (by k_is) (by k_is))
    (case w_yGN => exact PySem.W.exm_ref (by k_is) (by k_is) (by k_is) (by k_is))
    (case w_yGQ => exact PySem.W.exm_ref (by k_is) (by k_is) (by k_is) (by k_is))
    (case w_yPG => exact PySem.W.exm_ref (by k_is) (by k_is) (by k_is) (by k_is))
    (case w_yPP => exact PySem.W.exm_ref (by k_is) (by k_is) (by k_is) (by k_is))
    (case w_yPO => exact PySem.W.exm_ref (by k_is) (by k_is) (by k_is) (by k_is))
    (case w_yPN => exact PySem.W.exm_ref (by k_is) (by k_is) (by k_is) (by k_is))
    (case w_yPQ => exact PySem.W.exm_ref (by k_is) (by k_is) (by k_is) (by k_is))
    (case w_yOG => exact PySem.W.exm_ref (by k_is) (by k_is) (by k_is) (by k_is))
    (case w_yOP => exact PySem.W.exm_ref (by k_is) (by k_is) (by k_is) (by k_is))
    (case w_yOO => exact PySem.W.exm_ref (by k_is) (by k_is) (by k_is) (by k_is))
    (case w_yON => exact PySem.W.exm_ref (by k_is) (by k_is) (by k_is) (by k_is))
    (case w_yOQ => exact PySem.W.exm_ref (by k_is) (by k_is) (by k_is) (by k_is))
    (case w_yNG => exact PySem.W.exm_ref (by k_is) (by k_is) (by k_is) (by k_is))
    (case w_yNP => exact PySem.W.exm_ref (by k_is) (by k_is) (by k_is) (by k_is))
    (case w_yNO => exact PySem.W.exm_ref (by k_is) (by k_is) (by k_is) (by k_is))
    (case w_yNN => exact PySem.W.exm_ref (by k_is) (by k_is) (by k_is) (by k_is))
    (case w_yNQ => exact PySem.W.exm_ref (by k_is) (by k_is) (by k_is) (by k_is))
    (case w_yQG => exact PySem.W.exm_ref (by k_is) (by k_is) (by k_is) (by k_is))
    (case w_yQP => exact PySem.W.exm_ref (by k_is) (by k_is) (by k_is) (by k_is))
    (case w_yQO => exact PySem.W.exm_ref (by k_is) (by k_is) (by k_is) (by k_is))
    (case w_yQN => exact PySem.W.exm_ref (by k_is) (by k_is) (by k_is) (by k_is))
    (case w_yQQ => exact PySem.W.exm_ref (by k_is) (by k_is) (by k_is) (by k_is))
    (case w_nd => decide)
    (case w_g0 => exact ⟨_, by k_is, ⟨_, by rw [GL.B_eq]; rfl⟩⟩)
    (case w_g1 => exact ⟨_, by k_is, ⟨_, rfl⟩⟩)
    (case w_d0 => refine' GL.df_mk KX G ?a ?l ?c ?k; (case a => k_is); (case l => k_is); (case c => k_is); (case k => k_is))
    (case w_d1 => refine' GL.df_mk KX G ?a ?l ?c ?k; (case a => k_is); (case l => k_is); (case c => k_is); (case k => k_is))
    (case w_d2 => refine' GL.df_mk KX G ?a ?l ?c ?k; (case a => k_is); (case l => k_is); (case c => k_is); (case k => k_is))
    (case w_d3 => refine' GL.df_mk KX G ?a ?l ?c ?k; (case a => k_is); (case l => k_is); (case c => k_is); (case k => k_is))
    (case w_d4 => refine' GL.df_mk KX G ?a ?l ?c ?k; (case a => k_is); (case l => k_is); (case c => k_is); (case k => k_is))
    (case w_d5 => refine' GL.df_mk KX G ?a ?l ?c ?k; (case a => k_is); (case l => k_is); (case c => k_is); (case k => k_is))
    (case w_d6 => refine' GL.df_mk KX G ?a ?l ?c ?k; (case a => k_is); (case l => k_is); (case c => k_is); (case k => k_is))
    (case w_d7 => refine' GL.df_mk KX G ?a ?l ?c ?k; (case a => k_is); (case l => k_is); (case c => k_is); (case k => k_is))
    (case w_d8 => refine' GL.df_mk KX G ?a ?l ?c ?k; (case a => k_is); (case l => k_is); (case c => k_is); (case k => k_is))
    (case w_d9 => refine' GL.df_mk KX G ?a ?l ?c ?k; (case a => k_is); (case l => k_is); (case c => k_is); (case k => k_is))
    (case w_d10 => refine' GL.df_mk KX G ?a ?l ?c ?k; (case a => k_is); (case l => k_is); (case c => k_is); (case k => k_is))
    (case w_d11 => refine' GL.df_mk KX G ?a ?l ?c ?k; (case a => k_is); (case l => k_is); (case c => k_is); (case k => k_is))
    (case w_d12 => refine' GL.df_mk KX G ?a ?l ?c ?k; (case a => k_is); (case l => k_is); (case c => k_is); (case k => k_is))
    (case w_d13 => refine' GL.df_mk KX G ?a ?l ?c ?k; (case a => k_is); (case l => k_is); (case c => k_is); (case k => k_is))
    (case w_d14 => refine' GL.df_mk KX G ?a ?l ?c ?k; (case a => k_is); (case l => k_is); (case c => k_is); (case k => k_is))
    (case w_d15 => refine' GL.df_mk KX G ?a ?l ?c ?k; (case a => k_is); (case l => k_is); (case c => k_is); (case k => k_is))
    (case w_d16 => refine' GL.df_mk KX G ?a ?l ?c ?k; (case a => k_is); (case l => k_is); (case c => k_is); (case k => k_is))
    (case w_d17 => refine' GL.df_mk KX G ?a ?l ?c ?k; (case a => k_is); (case l => k_is); (case c => k_is); (case k => k_is))
    (case w_d18 => refine' GL.df_mk KX G ?a ?l ?c ?k; (case a => k_is); (case l => k_is); (case c => k_is); (case k => k_is))
    (case w_d19 => refine' GL.df_mk KX G ?a ?l ?c ?k; (case a => k_is); (case l => k_is); (case c => k_is); (case k => k_is))
    (case w_d20 => refine' GL.df_mk KX G ?a ?l ?c ?k; (case a => k_is); (case l => k_is); (case c => k_is); (case k => k_is))
    (case w_d21 => refine' GL.df_mk KX G ?a ?l ?c ?k; (case a => k_is); (case l => k_is); (case c => k_is); (case k => k_is))
    (case w_d22 => refine' GL.df_mk KX G ?a ?l ?c ?k; (case a => k_is); (case l => k_is); (case c => k_is); (case k => k_is))
    (case w_l1 => refine' GL.dl_mk KX G ?a ?l ?c ?k; (case a => k_is); (case l => k_is); (case c => k_is); (case k => k_is))
    (case w_l2 => refine' GL.dl_mk KX G ?a ?l ?c ?k; (case a => k_is); (case l => k_is); (case c => k_is); (case k => k_is))
    (case w_l3 => refine' GL.dl_mk KX G ?a ?l ?c ?k; (case a => k_is); (case l => k_is); (case c => k_is); (case k => k_is))
    (case w_h1 => refine' K07.cd_mk ?l ?e ?h; (case l => k_is); (case e => rfl); (case h => kernel_rfl))
    (case w_h2 => refine' K07.cd_mk ?l ?e ?h; (case l => k_is); (case e => rfl); (case h => kernel_rfl))
    (case w_h3 => refine' K07.cd_mk ?l ?e ?h; (case l => k_is); (case e => rfl); (case h => kernel_rfl))
    (case w_nT => decide)
    (case w_f1 => kernel_rfl)
    (case w_f2 => kernel_rfl)
    (case w_f3 => kernel_rfl)
    (case w_e1 => exact hT8 _ (by k_mem))
    (case w_e2 => exact hT8 _ (by k_mem))
    (case w_e3 => exact hT8 _ (by k_mem))
